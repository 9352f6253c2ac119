import Derived.Test.YtddffdcjhleejaaGreatG49
namespace Go.Proofs.YtddffdcjhleejaaGreat.ds
open Go.ChangeShapes Go.WideShapes Go.ChangeAt Go.RowKit Go.Sort
set_option linter.unusedVariables false
set_option linter.unusedSimpArgs false
/-- the walk's memory: the reader, the answer's box, the message's box, what its kind names -/
structure MX (wB w wx : World) (R : Nat) (p : Option Addr) (N c : Nat) (B : List Nat) (s : Except Nat Nat) (Y X : Nat) (hh : Option (Nat × Array Value)) (cs : Array Value) : Prop where
  ap : Apart [R] w wx
  rs : RS wB wx R p N c B s
  bx : wx.heap[X]? = some (.cells cs 29 (0, 0))
  by' : wx.heap[Y]? = some (.cells #[.int .i64 0, .int .i64 0, .int .i64 0, .int .i64 0, .int .i64 0, .int .i64 0, .string ⟨#[]⟩, .int .i64 0, .int .i64 0, .slice none 0 0, .slice none 0 0] 29 (0, 0))
  hb : ∀ x, hh = some x → wx.heap[x.1]? = some (.cells x.2 93 (0, 0))
  wX : w.heap.size ≤ X
  wY : w.heap.size ≤ Y
  bX : wB.heap.size ≤ X
  bY : wB.heap.size ≤ Y
  xy : X ≠ Y
  rX : R ≠ X
  rY : R ≠ Y
theorem MX.app {wB w wx w' : World} {R : Nat} {p : Option Addr} {N c : Nat} {B : List Nat} {s : Except Nat Nat} {Y X : Nat} {hh : Option (Nat × Array Value)} {cs : Array Value} {K : List Nat} (h : MX wB w wx R p N c B s Y X hh cs) (a : Apart K wx w') (hK : ∀ k ∈ K, w.heap.size ≤ k ∧ wB.heap.size ≤ k ∧ ∃ cur t, wx.heap[k]? = some (.cells cur t (0, 0)) ∧ t ≠ 100 ∧ t ≠ 29 ∧ t ≠ 93) : MX wB w w' R p N c B s Y X hh cs := by
  have hne : ∀ {g : Nat} {cu : Array Value} {t : Nat}, wx.heap[g]? = some (.cells cu t (0, 0)) → (t = 29 ∨ t = 93) → g ∉ K := fun {g cu t} hg ht hm => by
    obtain ⟨_, _, cur, t', h1, h2, h3, h4⟩ := hK g hm
    rw [hg] at h1
    simp at h1
    rcases ht with rfl | rfl
    · exact h3 h1.2.symm
    · exact h4 h1.2.symm
  exact { h with ap := h.ap.trans' a (fun y hy => .inr (hK y hy).1), rs := h.rs.app a (fun k hk => (by obtain ⟨_, h1, cur, t, h2, h3, _⟩ := hK k hk; exact ⟨h1, cur, t, h2, h3⟩)), bx := (a.block X (lt_of_heap h.bx) (hne h.bx (.inl rfl))).trans h.bx, by' := (a.block Y (lt_of_heap h.by') (hne h.by' (.inl rfl))).trans h.by', hb := fun x e => (a.block _ (lt_of_heap (h.hb x e)) (hne (h.hb x e) (.inr rfl))).trans (h.hb x e) }
theorem MX.call {wB w wx w' : World} {R : Nat} {p : Option Addr} {N c : Nat} {B : List Nat} {s s' : Except Nat Nat} {Y X : Nat} {hh : Option (Nat × Array Value)} {cs : Array Value} (h : MX wB w wx R p N c B s Y X hh cs) (a : Apart [R] wx w') (hr : RS wB w' R p N c B s') : MX wB w w' R p N c B s' Y X hh cs :=
  { h with ap := h.ap.trans a, rs := hr, bx := (a.block X (lt_of_heap h.bx) (by have := h.rX; simp; omega)).trans h.bx, by' := (a.block Y (lt_of_heap h.by') (by have := h.rY; simp; omega)).trans h.by', hb := fun x e => (a.block _ (lt_of_heap (h.hb x e)) (fun hm => (by
    simp at hm
    obtain ⟨cu, hb, _⟩ := h.rs.blk
    have h1 := h.hb x e
    rw [hm, hb] at h1
    simp at h1))).trans (h.hb x e) }
theorem MX.kept {wB w wx w' : World} {R : Nat} {p : Option Addr} {N c : Nat} {B : List Nat} {s : Except Nat Nat} {Y X : Nat} {hh : Option (Nat × Array Value)} {cs : Array Value} (h : MX wB w wx R p N c B s Y X hh cs) (a : Apart [] wx w') : MX wB w w' R p N c B s Y X hh cs :=
  h.app a (by simp)
theorem MX.store {wB w wx : World} {R : Nat} {p : Option Addr} {N c : Nat} {B : List Nat} {s : Except Nat Nat} {Y X : Nat} {hh : Option (Nat × Array Value)} {cs : Array Value} (h : MX wB w wx R p N c B s Y X hh cs) (k : Nat) (v : Value) : MX wB w (wx.setCell ⟨X, k, none⟩ v) R p N c B s Y X hh (cs.setIfInBounds k v) := by
  have a : Apart [X] wx (wx.setCell ⟨X, k, none⟩ v) := (Apart.refl _ _).setCell (.inl (by simp)) _
  refine { h with ap := h.ap.trans' a (by intro y hy; simp at hy; rw [hy]; exact .inr h.wX), rs := h.rs.app a (by intro y hy; simp at hy; rw [hy]; exact ⟨h.bX, _, 29, h.bx, by decide⟩), bx := heap_setCell_same wx X k _ 29 v h.bx, by' := (a.block Y (lt_of_heap h.by') (by have := h.xy; simp; omega)).trans h.by', hb := fun x e => (a.block _ (lt_of_heap (h.hb x e)) (fun hm => (by
    simp at hm
    have h1 := h.hb x e
    rw [hm, h.bx] at h1
    simp at h1))).trans (h.hb x e) }
theorem MX.re {wB w wx : World} {R : Nat} {p : Option Addr} {N c : Nat} {B : List Nat} {s s' : Except Nat Nat} {Y X : Nat} {hh : Option (Nat × Array Value)} {cs : Array Value} (h : MX wB w wx R p N c B s Y X hh cs) (e : s = s') : MX wB w wx R p N c B s' Y X hh cs := e ▸ h
def VMX (wB : World) (a : Mg) (v : Value) (w' : World) : Prop := ∃ (m : MM) (es : List E), v = .agg m.cs ∧ (m.kind = a.kind ∧ m.frm = a.frm ∧ m.dst = a.dst ∧ m.call = a.call ∧ m.rng = a.rng ∧ m.own = a.own ∧ m.key = strB a.key ∧ m.dn = a.dn ∧ m.dc = a.dc ∧ ∀ b ∈ a.key, b < 256) ∧ (Nw wB w' 48 3 m.set (flat a.set) ∧ m.set.n = a.set.length ∧ a.set.length ≤ 8 ∧ ∀ x ∈ a.set, x.t < 2 ^ 64) ∧ FX wB w' m.ws es a.ws ∧ a.ws.length ≤ 512
def UMX (v : Value) (w' : World) : Prop := ∃ (a0 a1 a2 a3 a4 a5 : Int) (k : ByteArray) (a7 a8 : Int) (s t : Sl), v = .agg #[.int .i64 a0, .int .i64 a1, .int .i64 a2, .int .i64 a3, .int .i64 a4, .int .i64 a5, .string k, .int .i64 a7, .int .i64 a8, .slice s.p s.n s.c, .slice t.p t.n t.c]
theorem fields_any (k : Int) : ∃ (b1 b2 b4 b8 b16 b32 ok : Bool) (i j : Int), ∀ w : World, Calls Tryz.prog 44 #[.int .i64 k] w fun r w' => r = .returned (.tuple #[.agg #[.bool b1, .bool b2, .bool b4, .bool b8, .bool b16, .bool b32, .int .i64 i, .int .i64 j], .bool ok]) ∧ Apart [] w w' := by
  by_cases hk : 1 ≤ k ∧ k ≤ 11
  · exact ⟨_, _, _, _, _, _, _, _, _, fun w => fieldsR_ok k hk w⟩
  · exact ⟨_, _, _, _, _, _, _, _, _, fun w => fieldsR_0 k hk w⟩
theorem outX_any {wB w w' : World} {R : Nat} {p : Option Addr} {N c : Nat} {B : List Nat} {e : Ending} {r : Except Nat (Wr × Nat)} (h : OutX wB w w' R p N c B e r (VX wB) UW) : Apart [R] w w' ∧ ∃ f : E, e = .returned (.agg #[.int .i64 f.n, .int .i64 f.c, .string f.k, .bool f.d, .slice f.v.p f.v.n f.v.c, .slice f.x.p f.x.n f.x.c]) ∧ RS wB w' R p N c B (plc r) ∧ ∀ a q', r = .ok (a, q') → WX wB w' f a := by
  obtain ⟨ha, hm⟩ := h
  refine ⟨ha, ?_⟩
  cases r with
  | error y =>
    obtain ⟨⟨v, rfl, f, rfl⟩, q2, hq2⟩ := hm
    exact ⟨f, rfl, RS.err hq2, fun _ _ e => by cases e⟩
  | ok t =>
    obtain ⟨a, q2⟩ := t
    obtain ⟨⟨v, rfl, f, rfl, hf⟩, hq2⟩ := hm
    exact ⟨f, rfl, RS.ok hq2, fun a' q' e => by cases e; exact hf⟩
theorem moK_le (k : Nat) : moK k ≤ 512 := by
  unfold moK mostK
  (repeat' split) <;> omega
theorem oxn_prev {α : Type} {B : List Nat} {b : Bool} {r : Except Nat (α × Nat)} {d hi : Nat} {lo : α → Nat} {a : α × Nat} {q : Nat} (h : ox b r d (nx B r lo hi) = .ok (a, q)) : ∃ q', r = .ok (a.1, q') := by
  cases b with
  | false => exact ⟨q, (ox_val h).2⟩
  | true => obtain ⟨q', h1, _⟩ := nx_prev2 h; exact ⟨q', h1⟩
theorem oxt_prev {α : Type} {B : List Nat} {b : Bool} {r : Except Nat (α × Nat)} {d : List Nat} {lo hi : Nat} {a : α × List Nat} {q : Nat} (h : ox b r d (tx B r lo hi) = .ok (a, q)) : ∃ q', r = .ok (a.1, q') := by
  cases b with
  | false => exact ⟨q, (ox_val h).2⟩
  | true => obtain ⟨q', h1, _⟩ := tx_prev h; exact ⟨q', h1⟩
theorem oxs_prev {α : Type} {B : List Nat} {b : Bool} {r : Except Nat (α × Nat)} {d : List S} {mb : Nat} {a : α × List S} {q : Nat} (h : ox b r d (st B r mb) = .ok (a, q)) : ∃ q', r = .ok (a.1, q') := by
  cases b with
  | false => exact ⟨q, (ox_val h).2⟩
  | true => obtain ⟨q', h1, _⟩ := st_prev h; exact ⟨q', h1⟩
set_option maxHeartbeats 32000000 in
set_option maxRecDepth 100000 in
theorem rmessage_ok {wB w : World} {R : Nat} {p : Option Addr} {N c : Nat} {B : List Nat} {q : Nat} (h : RX wB w R p N c B q (-1)) :
    Calls Tryz.prog 49 #[.pointer (some ⟨R, 0, none⟩)] w fun e w' => OutX wB w w' R p N c B e (rmD B q) (VMX wB) UMX := by
  have HRB := hid h
  have HB8 := hid h.b8
  obtain ⟨Y, HY⟩ : ∃ Y, Hid (Y = w.heap.size) := ⟨_, rfl⟩
  obtain ⟨X, HX⟩ : ∃ X, Hid (X = w.heap.size + 1) := ⟨_, rfl⟩
  obtain ⟨w0, hw0⟩ : ∃ w0, w0 = w.alloc (.cells #[.int .i64 0, .int .i64 0, .int .i64 0, .int .i64 0, .int .i64 0, .int .i64 0, .string ⟨#[]⟩, .int .i64 0, .int .i64 0, .slice none 0 0, .slice none 0 0] 29) := ⟨_, rfl⟩
  obtain ⟨w1, hw1⟩ : ∃ w1, w1 = w0.alloc (.cells #[.int .i64 0, .int .i64 0, .int .i64 0, .int .i64 0, .int .i64 0, .int .i64 0, .string ⟨#[]⟩, .int .i64 0, .int .i64 0, .slice none 0 0, .slice none 0 0] 29) := ⟨_, rfl⟩
  have HA0 : Hid (Apart [] w w0) := by unfold Hid; rw [hw0]; exact (Apart.refl [] w).alloc _
  have HA1 : Hid (Apart [] w0 w1) := by unfold Hid; rw [hw1]; exact (Apart.refl [] w0).alloc _
  have hs0 : w0.heap.size = w.heap.size + 1 := by rw [hw0]; simp
  have HY0 : Hid (w0.heap[Y]? = some (.cells #[.int .i64 0, .int .i64 0, .int .i64 0, .int .i64 0, .int .i64 0, .int .i64 0, .string ⟨#[]⟩, .int .i64 0, .int .i64 0, .slice none 0 0, .slice none 0 0] 29 (0, 0))) := by unfold Hid; rw [HY.out, hw0]; exact heap_alloc_new w _
  have HX1 : Hid (w1.heap[X]? = some (.cells #[.int .i64 0, .int .i64 0, .int .i64 0, .int .i64 0, .int .i64 0, .int .i64 0, .string ⟨#[]⟩, .int .i64 0, .int .i64 0, .slice none 0 0, .slice none 0 0] 29 (0, 0))) := by unfold Hid; rw [HX.out, ← hs0, hw1]; exact heap_alloc_new w0 _
  have HR1 := hid (h.kept (HA0.out.trans HA1.out))
  have hszR := lt_of_heap h.blk
  have hszB := h.ap.size
  have HW1 : Hid (MX wB w w1 R p N c B (plc (.ok ((), q))) Y X (none) #[.int .i64 0, .int .i64 0, .int .i64 0, .int .i64 0, .int .i64 0, .int .i64 0, .string ⟨#[]⟩, .int .i64 0, .int .i64 0, .slice none 0 0, .slice none 0 0]) := ⟨(HA0.out.trans HA1.out).mono (by simp), rsx_first HR1.out, HX1.out, (HA1.out.block _ (lt_of_heap HY0.out) (by simp)).trans HY0.out, fun x e => (by cases e), by rw [HX.out]; omega, by rw [HY.out]; omega, by rw [HX.out]; omega, by rw [HY.out]; omega, by rw [HX.out, HY.out]; omega, by rw [HX.out]; omega, by rw [HY.out]; omega⟩
  clear h hs0 hszR hszB
  go_enter Tryz.func49, Tryz.ntmps49
  go_wp2_with fail
  rw [← hw0, ← hw1, ← HX.out, ← HY.out]
  clear hw0 hw1
  refine (rnumI_any HW1.out.rs (fun _ => 1) 11 1 (fun _ _ _ => ⟨rfl, by omega⟩) (by omega)).mono ?_
  rintro _ w2 ⟨ha2, zk, rfl, hr2, hz2⟩
  have HW2 : Hid (MX wB w w2 R p N c B (plc (nx B (.ok ((), q)) (fun _ => 1) 11)) Y X (none) #[.int .i64 0, .int .i64 0, .int .i64 0, .int .i64 0, .int .i64 0, .int .i64 0, .string ⟨#[]⟩, .int .i64 0, .int .i64 0, .slice none 0 0, .slice none 0 0]) := HW1.out.call ha2 hr2
  have HZ2 := hid hz2
  have HS2 := hid ha2
  clear ha2 hr2 hz2
  try dsimp only
  obtain ⟨⟨c0, c1, c2, c3, c4, c5⟩, c6, c7, c8, c9, c10⟩ := row11 HW2.out.bx
  obtain ⟨w3, hw3⟩ : ∃ w3, w3 = w2.setCell ⟨X, 0, none⟩ (.int .i64 zk) := ⟨_, rfl⟩
  have HW3 : Hid (MX wB w w3 R p N c B (plc (nx B (.ok ((), q)) (fun _ => 1) 11)) Y X (none) #[.int .i64 zk, .int .i64 0, .int .i64 0, .int .i64 0, .int .i64 0, .int .i64 0, .string ⟨#[]⟩, .int .i64 0, .int .i64 0, .slice none 0 0, .slice none 0 0]) := by
    unfold Hid
    rw [hw3]
    have := HW2.out.store 0 (.int .i64 zk)
    simpa using this
  have f0 := frozen_of_row _ _ 0 _ _ HW2.out.bx
  go_wp2_with fail
  rw [← hw3]
  clear hw3 f0
  clear c0 c1 c2 c3 c4 c5 c6 c7 c8 c9 c10
  refine (rnumI_any HW3.out.rs (fun _ => 0) 7 0 (fun _ _ _ => ⟨rfl, by omega⟩) (by omega)).mono ?_
  rintro _ w4 ⟨ha4, zf, rfl, hr4, hz4⟩
  have HW4 : Hid (MX wB w w4 R p N c B (plc (nx B (nx B (.ok ((), q)) (fun _ => 1) 11) (fun _ => 0) 7)) Y X (none) #[.int .i64 zk, .int .i64 0, .int .i64 0, .int .i64 0, .int .i64 0, .int .i64 0, .string ⟨#[]⟩, .int .i64 0, .int .i64 0, .slice none 0 0, .slice none 0 0]) := HW3.out.call ha4 hr4
  have HZ4 := hid hz4
  have HS4 := hid ha4
  clear ha4 hr4 hz4
  try dsimp only
  obtain ⟨⟨c0, c1, c2, c3, c4, c5⟩, c6, c7, c8, c9, c10⟩ := row11 HW4.out.bx
  obtain ⟨w5, hw5⟩ : ∃ w5, w5 = w4.setCell ⟨X, 1, none⟩ (.int .i64 zf) := ⟨_, rfl⟩
  have HW5 : Hid (MX wB w w5 R p N c B (plc (nx B (nx B (.ok ((), q)) (fun _ => 1) 11) (fun _ => 0) 7)) Y X (none) #[.int .i64 zk, .int .i64 zf, .int .i64 0, .int .i64 0, .int .i64 0, .int .i64 0, .string ⟨#[]⟩, .int .i64 0, .int .i64 0, .slice none 0 0, .slice none 0 0]) := by
    unfold Hid
    rw [hw5]
    have := HW4.out.store 1 (.int .i64 zf)
    simpa using this
  have f0 := frozen_of_row _ _ 1 _ _ HW4.out.bx
  go_wp2_with fail
  rw [← hw5]
  clear hw5 f0
  clear c0 c1 c2 c3 c4 c5 c6 c7 c8 c9 c10
  refine (rnumI_any HW5.out.rs (fun _ => 0) 7 0 (fun _ _ _ => ⟨rfl, by omega⟩) (by omega)).mono ?_
  rintro _ w6 ⟨ha6, zt, rfl, hr6, hz6⟩
  have HW6 : Hid (MX wB w w6 R p N c B (plc (hd3 B q)) Y X (none) #[.int .i64 zk, .int .i64 zf, .int .i64 0, .int .i64 0, .int .i64 0, .int .i64 0, .string ⟨#[]⟩, .int .i64 0, .int .i64 0, .slice none 0 0, .slice none 0 0]) := HW5.out.call ha6 hr6
  have HZ6 := hid hz6
  have HS6 := hid ha6
  clear ha6 hr6 hz6
  try dsimp only
  obtain ⟨⟨c0, c1, c2, c3, c4, c5⟩, c6, c7, c8, c9, c10⟩ := row11 HW6.out.bx
  obtain ⟨w7, hw7⟩ : ∃ w7, w7 = w6.setCell ⟨X, 2, none⟩ (.int .i64 zt) := ⟨_, rfl⟩
  have HW7 : Hid (MX wB w w7 R p N c B (plc (hd3 B q)) Y X (none) #[.int .i64 zk, .int .i64 zf, .int .i64 zt, .int .i64 0, .int .i64 0, .int .i64 0, .string ⟨#[]⟩, .int .i64 0, .int .i64 0, .slice none 0 0, .slice none 0 0]) := by
    unfold Hid
    rw [hw7]
    have := HW6.out.store 2 (.int .i64 zt)
    simpa using this
  have f0 := frozen_of_row _ _ 2 _ _ HW6.out.bx
  have HZH : Hid (∀ a q', hd3 B q = .ok (a, q') → zk = (a.1.1.2 : Nat) ∧ zf = (a.1.2 : Nat) ∧ zt = (a.2 : Nat) ∧ 1 ≤ a.1.1.2 ∧ a.1.1.2 ≤ 11) := fun a q' e => (by
    obtain ⟨q5, e5, _⟩ := nx_prev2 e
    obtain ⟨q4, e4, _⟩ := nx_prev2 e5
    obtain ⟨q0, e3, hb⟩ := nx_prev2 e4
    have := rbound_le hb
    exact ⟨HZ2.out a.1.1.1 a.1.1.2 q4 e4, HZ4.out a.1.1 a.1.2 q5 e5, HZ6.out a.1 a.2 q' e, this.1, this.2⟩)
  have HL := hid (rmD_link B q)
  go_upto_region 5 with fail
  rw [← hw7]
  clear hw7 f0
  clear c0 c1 c2 c3 c4 c5 c6 c7 c8 c9 c10
  cases hh3 : hd3 B q with
  | error y =>
    obtain ⟨q0, x0, hrx, _, hq2⟩ := HW7.out.rs
    have hx := hq2 y (by rw [hh3]; rfl)
    subst hx
    have HF : Hid (rmD B q = .error y) := by unfold Hid; rw [HL.out, hh3]; rfl
    have hy : ((y : Nat) : Int) ≥ 0 := by omega
    have HH3 := hid hh3
    clear hrx hq2 hh3
    obtain ⟨b1, b2, b4, b8, b16, b32, okb, ii, jj, hfa⟩ := fields_any zk
    have HFA := hid hfa
    clear hfa
    obtain ⟨⟨c0, c1, c2, c3, c4, c5⟩, c6, c7, c8, c9, c10⟩ := row11 HW7.out.bx
    go_wp2_with fail
    refine (HFA.out w7).mono ?_
    rintro _ w8 ⟨rfl, ha8⟩
    have HW8 := hid (HW7.out.kept ha8)
    clear ha8
    clear c0 c1 c2 c3 c4 c5 c6 c7 c8 c9 c10
    try dsimp only
    obtain ⟨w9, hw9⟩ : ∃ w9, w9 = w8.alloc (.cells #[.bool b1, .bool b2, .bool b4, .bool b8, .bool b16, .bool b32, .int .i64 ii, .int .i64 jj] 93) := ⟨_, rfl⟩
    have HW9 : Hid (MX wB w w9 R p N c B (plc (hd3 B q)) Y X (none) #[.int .i64 zk, .int .i64 zf, .int .i64 zt, .int .i64 0, .int .i64 0, .int .i64 0, .string ⟨#[]⟩, .int .i64 0, .int .i64 0, .slice none 0 0, .slice none 0 0]) := by unfold Hid; rw [hw9]; exact HW8.out.kept ((Apart.refl [] w8).alloc _)
    obtain ⟨q0, x0, hrx, _, hq2⟩ := HW9.out.rs
    have HFE : Hid (x0 = ((y : Nat) : Int)) := hq2 y (by rw [HH3.out]; rfl)
    have hx := HFE.out
    subst hx
    obtain ⟨z0, z1, z2, z3, z4⟩ := hrx.cells
    rw [hw9] at z0 z1 z2 z3 z4
    clear hrx hq2
    go_upto_region 7 with fail
    rw [← hw9]
    clear hw9 z0 z1 z2 z3 z4
    obtain ⟨⟨c0, c1, c2, c3, c4, c5⟩, c6, c7, c8, c9, c10⟩ := row11 HW9.out.bx
    obtain ⟨⟨y0, y1, y2, y3, y4, y5⟩, y6, y7, y8, y9, y10⟩ := row11 HW9.out.by'
    have f0 := frozen_of_row _ _ 0 _ _ HW9.out.by'
    have f1 := frozen_of_row _ _ 1 _ _ HW9.out.by'
    have f2 := frozen_of_row _ _ 2 _ _ HW9.out.by'
    have f3 := frozen_of_row _ _ 3 _ _ HW9.out.by'
    have f4 := frozen_of_row _ _ 4 _ _ HW9.out.by'
    have f5 := frozen_of_row _ _ 5 _ _ HW9.out.by'
    have f6 := frozen_of_row _ _ 6 _ _ HW9.out.by'
    have f7 := frozen_of_row _ _ 7 _ _ HW9.out.by'
    have f8 := frozen_of_row _ _ 8 _ _ HW9.out.by'
    have f9 := frozen_of_row _ _ 9 _ _ HW9.out.by'
    have f10 := frozen_of_row _ _ 10 _ _ HW9.out.by'
    obtain ⟨wz, Hwz⟩ : ∃ wz, Hid (wz = (((((((((((w9.setCell ⟨Y, 0, none⟩ (.int .i64 zk)).setCell ⟨Y, 1, none⟩ (.int .i64 zf)).setCell ⟨Y, 2, none⟩ (.int .i64 zt)).setCell ⟨Y, 3, none⟩ (.int .i64 0)).setCell ⟨Y, 4, none⟩ (.int .i64 0)).setCell ⟨Y, 5, none⟩ (.int .i64 0)).setCell ⟨Y, 6, none⟩ (.string ⟨#[]⟩)).setCell ⟨Y, 7, none⟩ (.int .i64 0)).setCell ⟨Y, 8, none⟩ (.int .i64 0)).setCell ⟨Y, 9, none⟩ (.slice none 0 0)).setCell ⟨Y, 10, none⟩ (.slice none 0 0))) := ⟨_, rfl⟩
    have HYz : Hid (wz.heap[Y]? = some (.cells #[.int .i64 zk, .int .i64 zf, .int .i64 zt, .int .i64 0, .int .i64 0, .int .i64 0, .string ⟨#[]⟩, .int .i64 0, .int .i64 0, .slice none 0 0, .slice none 0 0] 29 (0, 0))) := by
      unfold Hid
      rw [Hwz.out]
      have q0 := heap_setCell_same w9 Y 0 _ 29 (.int .i64 zk) HW9.out.by'
      have q1 := heap_setCell_same _ Y 1 _ 29 (.int .i64 zf) q0
      have q2 := heap_setCell_same _ Y 2 _ 29 (.int .i64 zt) q1
      have q3 := heap_setCell_same _ Y 3 _ 29 (.int .i64 0) q2
      have q4 := heap_setCell_same _ Y 4 _ 29 (.int .i64 0) q3
      have q5 := heap_setCell_same _ Y 5 _ 29 (.int .i64 0) q4
      have q6 := heap_setCell_same _ Y 6 _ 29 (.string ⟨#[]⟩) q5
      have q7 := heap_setCell_same _ Y 7 _ 29 (.int .i64 0) q6
      have q8 := heap_setCell_same _ Y 8 _ 29 (.int .i64 0) q7
      have q9 := heap_setCell_same _ Y 9 _ 29 (.slice none 0 0) q8
      have q10 := heap_setCell_same _ Y 10 _ 29 (.slice none 0 0) q9
      simpa using q10
    have HSz : Hid (Apart [Y] w9 wz) := by unfold Hid; rw [Hwz.out]; exact (((((((((((Apart.refl _ _).setCell (.inl (by simp)) _).setCell (.inl (by simp)) _).setCell (.inl (by simp)) _).setCell (.inl (by simp)) _).setCell (.inl (by simp)) _).setCell (.inl (by simp)) _).setCell (.inl (by simp)) _).setCell (.inl (by simp)) _).setCell (.inl (by simp)) _).setCell (.inl (by simp)) _).setCell (.inl (by simp)) _
    have HAz : Hid (Apart [R] w wz) := HW9.out.ap.trans' HSz.out (by intro y hy; simp at hy; rw [hy]; exact .inr HW9.out.wY)
    have HRz := hid (HW9.out.rs.app HSz.out (by intro y hy; simp at hy; rw [hy]; exact ⟨HW9.out.bY, _, 29, HW9.out.by', by decide⟩))
    go_wp2_with fail
    rw [← Hwz.out]
    refine bodyPost_ret (results_cell_row rfl _ _ Y 29 _ _ _ rfl HYz.out Tryz.underlying29 rfl size29) rfl ?_
    refine ⟨HAz.out, ?_⟩
    obtain ⟨qz, xz, hrz, hz1, hz2⟩ := HRz.out
    have hx := hz2 y (by rw [HH3.out]; rfl)
    subst hx
    rw [HF.out]
    exact ⟨⟨_, rfl, zk, zf, zt, 0, 0, 0, ⟨#[]⟩, 0, 0, ⟨none, 0, 0⟩, ⟨none, 0, 0⟩, rfl⟩, qz, hrz⟩
  | ok tt =>
    obtain ⟨⟨⟨⟨uu, k⟩, f⟩, t⟩, q3⟩ := tt
    obtain ⟨ek, ef, et, hk1, hk2⟩ := HZH.out _ _ hh3
    have ek' : zk = (k : Nat) := ek
    have ef' : zf = (f : Nat) := ef
    have et' : zt = (t : Nat) := et
    have hk1' : 1 ≤ k := hk1
    have hk2' : k ≤ 11 := hk2
    clear ek ef et hk1 hk2
    subst ek' ef' et'
    have HF : Hid (rmD B q = rmX B k f t q3) := by unfold Hid; rw [HL.out, hh3]; rfl
    have HH3 := hid hh3
    clear hh3
    obtain ⟨b1, Hb1⟩ : ∃ b, Hid (b = hasF k 1) := ⟨_, rfl⟩
    obtain ⟨b2, Hb2⟩ : ∃ b, Hid (b = hasF k 2) := ⟨_, rfl⟩
    obtain ⟨b4, Hb4⟩ : ∃ b, Hid (b = hasF k 4) := ⟨_, rfl⟩
    obtain ⟨b8, Hb8⟩ : ∃ b, Hid (b = hasF k 8) := ⟨_, rfl⟩
    obtain ⟨b16, Hb16⟩ : ∃ b, Hid (b = hasF k 16) := ⟨_, rfl⟩
    obtain ⟨b32, Hb32⟩ : ∃ b, Hid (b = hasF k 32) := ⟨_, rfl⟩
    obtain ⟨wk, Hwk⟩ : ∃ n, Hid (n = wrK k) := ⟨_, rfl⟩
    obtain ⟨mo, Hmo⟩ : ∃ n, Hid (n = moK k) := ⟨_, rfl⟩
    have HFA : Hid (∀ W, Calls Tryz.prog 44 #[.int .i64 (k : Nat)] W fun r w' => r = .returned (.tuple #[.agg #[.bool b1, .bool b2, .bool b4, .bool b8, .bool b16, .bool b32, .int .i64 (wk : Nat), .int .i64 (mo : Nat)], .bool true]) ∧ Apart [] W w') := fun W => (by
      have := fieldsR_ok (k : Nat) ⟨by omega, by omega⟩ W
      rw [Int.toNat_natCast] at this
      rw [Hb1.out, Hb2.out, Hb4.out, Hb8.out, Hb16.out, Hb32.out, Hwk.out, Hmo.out]
      exact this)
    obtain ⟨⟨c0, c1, c2, c3, c4, c5⟩, c6, c7, c8, c9, c10⟩ := row11 HW7.out.bx
    go_wp2_with fail
    refine (HFA.out w7).mono ?_
    rintro _ w8 ⟨rfl, ha8⟩
    have HW8 := hid (HW7.out.kept ha8)
    clear ha8
    clear c0 c1 c2 c3 c4 c5 c6 c7 c8 c9 c10
    try dsimp only
    obtain ⟨H, HHn⟩ : ∃ H, Hid (H = w8.heap.size) := ⟨_, rfl⟩
    obtain ⟨w9, hw9⟩ : ∃ w9, w9 = w8.alloc (.cells #[.bool b1, .bool b2, .bool b4, .bool b8, .bool b16, .bool b32, .int .i64 (wk : Nat), .int .i64 (mo : Nat)] 93) := ⟨_, rfl⟩
    have HW9 : Hid (MX wB w w9 R p N c B (plc (x3 q3)) Y X (some (H, #[.bool b1, .bool b2, .bool b4, .bool b8, .bool b16, .bool b32, .int .i64 (wk : Nat), .int .i64 (mo : Nat)])) #[.int .i64 (k : Nat), .int .i64 (f : Nat), .int .i64 (t : Nat), .int .i64 0, .int .i64 0, .int .i64 0, .string ⟨#[]⟩, .int .i64 0, .int .i64 0, .slice none 0 0, .slice none 0 0]) := by
      have hh9 : w9.heap[H]? = some (.cells #[.bool b1, .bool b2, .bool b4, .bool b8, .bool b16, .bool b32, .int .i64 (wk : Nat), .int .i64 (mo : Nat)] 93 (0, 0)) := by rw [HHn.out, hw9]; exact heap_alloc_new w8 _
      have h1 := (HW8.out.re (show plc (hd3 B q) = plc (x3 q3) by rw [HH3.out]; rfl)).kept ((Apart.refl [] w8).alloc (.cells #[.bool b1, .bool b2, .bool b4, .bool b8, .bool b16, .bool b32, .int .i64 (wk : Nat), .int .i64 (mo : Nat)] 93))
      rw [← hw9] at h1
      exact { h1 with hb := fun x e => (by cases e; exact hh9) }
    obtain ⟨q0, x0, hrx, hq1, _⟩ := HW9.out.rs
    obtain ⟨e1, e2⟩ := hq1 q3 rfl
    rw [e1, e2] at hrx
    obtain ⟨z0, z1, z2, z3, z4⟩ := hrx.cells
    rw [hw9] at z0 z1 z2 z3 z4
    clear hrx hq1 e1 e2
    go_upto_region 8 with fail
    rw [← hw9, ← HHn.out]
    clear hw9 z0 z1 z2 z3 z4
    obtain ⟨h0, h1, h2, h3, h4, h5, h6, h7⟩ := row8v (HW9.out.hb _ rfl)
    go_upto_if 32 with fail
    clear h0 h1 h2 h3 h4 h5 h6 h7
    go_cut [] from 33 to 35 (fun wx => ∃ zca : Int, MX wB w wx R p N c B (plc (x4 B k q3)) Y X (some (H, #[.bool b1, .bool b2, .bool b4, .bool b8, .bool b16, .bool b32, .int .i64 (wk : Nat), .int .i64 (mo : Nat)])) #[.int .i64 (k : Nat), .int .i64 (f : Nat), .int .i64 (t : Nat), .int .i64 zca, .int .i64 0, .int .i64 0, .string ⟨#[]⟩, .int .i64 0, .int .i64 0, .slice none 0 0, .slice none 0 0] ∧ ∀ a q', x4 B k q3 = .ok (a, q') → zca = (a.2 : Nat))
    case first =>
      cases b1 with
      | false =>
        have E0 : plc (x4 B k q3) = plc (x3 q3) ∧ ∀ a q', x4 B k q3 = .ok (a, q') → a.2 = 0 := by unfold x4; rw [← Hb1.out]; exact ⟨ox_no _ _ _, fun a q' e => (ox_val e).1⟩
        have HO := hid E0
        clear E0
        go_wp2_with fail
        go_meet
        exact ⟨0, HW9.out.re HO.out.1.symm, fun a q' e => (by rw [HO.out.2 a q' e]; rfl)⟩
      | true =>
        have HO : Hid (x4 B k q3 = nx B (x3 q3) (fun _ => 0) 4096) := by unfold Hid x4; rw [← Hb1.out]; rfl
        go_wp2_with fail
        refine (rnumI_any HW9.out.rs (fun _ => 0) 4096 0 (fun _ _ _ => ⟨rfl, by omega⟩) (by omega)).mono ?_
        rintro _ v1 ⟨hav, zca, rfl, hrv, hzv⟩
        have HWv1 : Hid (MX wB w v1 R p N c B (plc (nx B (x3 q3) (fun _ => 0) 4096)) Y X (some (H, #[.bool true, .bool b2, .bool b4, .bool b8, .bool b16, .bool b32, .int .i64 (wk : Nat), .int .i64 (mo : Nat)])) #[.int .i64 (k : Nat), .int .i64 (f : Nat), .int .i64 (t : Nat), .int .i64 0, .int .i64 0, .int .i64 0, .string ⟨#[]⟩, .int .i64 0, .int .i64 0, .slice none 0 0, .slice none 0 0]) := HW9.out.call hav hrv
        have HZv := hid hzv
        clear hav hrv hzv
        try dsimp only
        obtain ⟨⟨c0, c1, c2, c3, c4, c5⟩, c6, c7, c8, c9, c10⟩ := row11 HWv1.out.bx
        obtain ⟨v2, hv2⟩ : ∃ v2, v2 = v1.setCell ⟨X, 3, none⟩ (.int .i64 zca) := ⟨_, rfl⟩
        have HWv2 : Hid (MX wB w v2 R p N c B (plc (nx B (x3 q3) (fun _ => 0) 4096)) Y X (some (H, #[.bool true, .bool b2, .bool b4, .bool b8, .bool b16, .bool b32, .int .i64 (wk : Nat), .int .i64 (mo : Nat)])) #[.int .i64 (k : Nat), .int .i64 (f : Nat), .int .i64 (t : Nat), .int .i64 zca, .int .i64 0, .int .i64 0, .string ⟨#[]⟩, .int .i64 0, .int .i64 0, .slice none 0 0, .slice none 0 0]) := by
          unfold Hid
          rw [hv2]
          have := HWv1.out.store 3 (.int .i64 zca)
          simpa using this
        have f0 := frozen_of_row _ _ 3 _ _ HWv1.out.bx
        go_wp2_with fail
        rw [← hv2]
        go_meet
        exact ⟨zca, HWv2.out.re (congrArg plc HO.out.symm), fun a q' e => HZv.out a.1 a.2 q' (HO.out ▸ e)⟩
    generalize wc = w10 at *
    obtain ⟨zca, hm, hz⟩ := hcut
    have HW10 := hid hm
    have HZ10 := hid hz
    clear hm hz
    obtain ⟨h0, h1, h2, h3, h4, h5, h6, h7⟩ := row8v (HW10.out.hb _ rfl)
    go_upto_if 37 with fail
    clear h0 h1 h2 h3 h4 h5 h6 h7
    go_cut [] from 38 to 40 (fun wx => ∃ zow : Int, MX wB w wx R p N c B (plc (x5 B k q3)) Y X (some (H, #[.bool b1, .bool b2, .bool b4, .bool b8, .bool b16, .bool b32, .int .i64 (wk : Nat), .int .i64 (mo : Nat)])) #[.int .i64 (k : Nat), .int .i64 (f : Nat), .int .i64 (t : Nat), .int .i64 zca, .int .i64 0, .int .i64 zow, .string ⟨#[]⟩, .int .i64 0, .int .i64 0, .slice none 0 0, .slice none 0 0] ∧ ∀ a q', x5 B k q3 = .ok (a, q') → zow = (a.2 : Nat))
    case first =>
      cases b2 with
      | false =>
        have E0 : plc (x5 B k q3) = plc (x4 B k q3) ∧ ∀ a q', x5 B k q3 = .ok (a, q') → a.2 = 0 := by unfold x5; rw [← Hb2.out]; exact ⟨ox_no _ _ _, fun a q' e => (ox_val e).1⟩
        have HO := hid E0
        clear E0
        go_wp2_with fail
        go_meet
        exact ⟨0, HW10.out.re HO.out.1.symm, fun a q' e => (by rw [HO.out.2 a q' e]; rfl)⟩
      | true =>
        have HO : Hid (x5 B k q3 = nx B (x4 B k q3) (fun _ => 0) 7) := by unfold Hid x5; rw [← Hb2.out]; rfl
        go_wp2_with fail
        refine (rnumI_any HW10.out.rs (fun _ => 0) 7 0 (fun _ _ _ => ⟨rfl, by omega⟩) (by omega)).mono ?_
        rintro _ v1 ⟨hav, zow, rfl, hrv, hzv⟩
        have HWv1 : Hid (MX wB w v1 R p N c B (plc (nx B (x4 B k q3) (fun _ => 0) 7)) Y X (some (H, #[.bool b1, .bool true, .bool b4, .bool b8, .bool b16, .bool b32, .int .i64 (wk : Nat), .int .i64 (mo : Nat)])) #[.int .i64 (k : Nat), .int .i64 (f : Nat), .int .i64 (t : Nat), .int .i64 zca, .int .i64 0, .int .i64 0, .string ⟨#[]⟩, .int .i64 0, .int .i64 0, .slice none 0 0, .slice none 0 0]) := HW10.out.call hav hrv
        have HZv := hid hzv
        clear hav hrv hzv
        try dsimp only
        obtain ⟨⟨c0, c1, c2, c3, c4, c5⟩, c6, c7, c8, c9, c10⟩ := row11 HWv1.out.bx
        obtain ⟨v2, hv2⟩ : ∃ v2, v2 = v1.setCell ⟨X, 5, none⟩ (.int .i64 zow) := ⟨_, rfl⟩
        have HWv2 : Hid (MX wB w v2 R p N c B (plc (nx B (x4 B k q3) (fun _ => 0) 7)) Y X (some (H, #[.bool b1, .bool true, .bool b4, .bool b8, .bool b16, .bool b32, .int .i64 (wk : Nat), .int .i64 (mo : Nat)])) #[.int .i64 (k : Nat), .int .i64 (f : Nat), .int .i64 (t : Nat), .int .i64 zca, .int .i64 0, .int .i64 zow, .string ⟨#[]⟩, .int .i64 0, .int .i64 0, .slice none 0 0, .slice none 0 0]) := by
          unfold Hid
          rw [hv2]
          have := HWv1.out.store 5 (.int .i64 zow)
          simpa using this
        have f0 := frozen_of_row _ _ 5 _ _ HWv1.out.bx
        go_wp2_with fail
        rw [← hv2]
        go_meet
        exact ⟨zow, HWv2.out.re (congrArg plc HO.out.symm), fun a q' e => HZv.out a.1 a.2 q' (HO.out ▸ e)⟩
    generalize wc = w11 at *
    obtain ⟨zow, hm, hz⟩ := hcut
    have HW11 := hid hm
    have HZ11 := hid hz
    clear hm hz
    obtain ⟨h0, h1, h2, h3, h4, h5, h6, h7⟩ := row8v (HW11.out.hb _ rfl)
    go_upto_if 42 with fail
    clear h0 h1 h2 h3 h4 h5 h6 h7
    go_cut [] from 43 to 45 (fun wx => ∃ zrg : Int, MX wB w wx R p N c B (plc (x6 B k q3)) Y X (some (H, #[.bool b1, .bool b2, .bool b4, .bool b8, .bool b16, .bool b32, .int .i64 (wk : Nat), .int .i64 (mo : Nat)])) #[.int .i64 (k : Nat), .int .i64 (f : Nat), .int .i64 (t : Nat), .int .i64 zca, .int .i64 zrg, .int .i64 zow, .string ⟨#[]⟩, .int .i64 0, .int .i64 0, .slice none 0 0, .slice none 0 0] ∧ ∀ a q', x6 B k q3 = .ok (a, q') → zrg = (a.2 : Nat))
    case first =>
      cases b4 with
      | false =>
        have E0 : plc (x6 B k q3) = plc (x5 B k q3) ∧ ∀ a q', x6 B k q3 = .ok (a, q') → a.2 = 0 := by unfold x6; rw [← Hb4.out]; exact ⟨ox_no _ _ _, fun a q' e => (ox_val e).1⟩
        have HO := hid E0
        clear E0
        go_wp2_with fail
        go_meet
        exact ⟨0, HW11.out.re HO.out.1.symm, fun a q' e => (by rw [HO.out.2 a q' e]; rfl)⟩
      | true =>
        have HO : Hid (x6 B k q3 = nx B (x5 B k q3) (fun _ => 0) 15) := by unfold Hid x6; rw [← Hb4.out]; rfl
        go_wp2_with fail
        refine (rnumI_any HW11.out.rs (fun _ => 0) 15 0 (fun _ _ _ => ⟨rfl, by omega⟩) (by omega)).mono ?_
        rintro _ v1 ⟨hav, zrg, rfl, hrv, hzv⟩
        have HWv1 : Hid (MX wB w v1 R p N c B (plc (nx B (x5 B k q3) (fun _ => 0) 15)) Y X (some (H, #[.bool b1, .bool b2, .bool true, .bool b8, .bool b16, .bool b32, .int .i64 (wk : Nat), .int .i64 (mo : Nat)])) #[.int .i64 (k : Nat), .int .i64 (f : Nat), .int .i64 (t : Nat), .int .i64 zca, .int .i64 0, .int .i64 zow, .string ⟨#[]⟩, .int .i64 0, .int .i64 0, .slice none 0 0, .slice none 0 0]) := HW11.out.call hav hrv
        have HZv := hid hzv
        clear hav hrv hzv
        try dsimp only
        obtain ⟨⟨c0, c1, c2, c3, c4, c5⟩, c6, c7, c8, c9, c10⟩ := row11 HWv1.out.bx
        obtain ⟨v2, hv2⟩ : ∃ v2, v2 = v1.setCell ⟨X, 4, none⟩ (.int .i64 zrg) := ⟨_, rfl⟩
        have HWv2 : Hid (MX wB w v2 R p N c B (plc (nx B (x5 B k q3) (fun _ => 0) 15)) Y X (some (H, #[.bool b1, .bool b2, .bool true, .bool b8, .bool b16, .bool b32, .int .i64 (wk : Nat), .int .i64 (mo : Nat)])) #[.int .i64 (k : Nat), .int .i64 (f : Nat), .int .i64 (t : Nat), .int .i64 zca, .int .i64 zrg, .int .i64 zow, .string ⟨#[]⟩, .int .i64 0, .int .i64 0, .slice none 0 0, .slice none 0 0]) := by
          unfold Hid
          rw [hv2]
          have := HWv1.out.store 4 (.int .i64 zrg)
          simpa using this
        have f0 := frozen_of_row _ _ 4 _ _ HWv1.out.bx
        go_wp2_with fail
        rw [← hv2]
        go_meet
        exact ⟨zrg, HWv2.out.re (congrArg plc HO.out.symm), fun a q' e => HZv.out a.1 a.2 q' (HO.out ▸ e)⟩
    generalize wc = w12 at *
    obtain ⟨zrg, hm, hz⟩ := hcut
    have HW12 := hid hm
    have HZ12 := hid hz
    clear hm hz
    obtain ⟨h0, h1, h2, h3, h4, h5, h6, h7⟩ := row8v (HW12.out.hb _ rfl)
    go_upto_if 47 with fail
    clear h0 h1 h2 h3 h4 h5 h6 h7
    go_cut [] from 48 to 50 (fun wx => ∃ kk : ByteArray, MX wB w wx R p N c B (plc (x7 B k q3)) Y X (some (H, #[.bool b1, .bool b2, .bool b4, .bool b8, .bool b16, .bool b32, .int .i64 (wk : Nat), .int .i64 (mo : Nat)])) #[.int .i64 (k : Nat), .int .i64 (f : Nat), .int .i64 (t : Nat), .int .i64 zca, .int .i64 zrg, .int .i64 zow, .string kk, .int .i64 0, .int .i64 0, .slice none 0 0, .slice none 0 0] ∧ ∀ a q', x7 B k q3 = .ok (a, q') → kk = strB a.2 ∧ ∀ b ∈ a.2, b < 256)
    case first =>
      cases b8 with
      | false =>
        have E0 : plc (x7 B k q3) = plc (x6 B k q3) ∧ ∀ a q', x7 B k q3 = .ok (a, q') → a.2 = [] := by unfold x7; rw [← Hb8.out]; exact ⟨ox_no _ _ _, fun a q' e => (ox_val e).1⟩
        have HO := hid E0
        clear E0
        go_wp2_with fail
        go_meet
        exact ⟨⟨#[]⟩, HW12.out.re HO.out.1.symm, fun a q' e => (by rw [HO.out.2 a q' e]; exact ⟨rfl, by simp⟩)⟩
      | true =>
        have HO : Hid (x7 B k q3 = tx B (x6 B k q3) 1 16) := by unfold Hid x7; rw [← Hb8.out]; rfl
        go_wp2_with fail
        refine (rtext_any HW12.out.rs 1 16 (by omega) (by omega)).mono ?_
        rintro _ v1 ⟨hav, kk, rfl, hrv, hzv⟩
        have HWv1 : Hid (MX wB w v1 R p N c B (plc (tx B (x6 B k q3) 1 16)) Y X (some (H, #[.bool b1, .bool b2, .bool b4, .bool true, .bool b16, .bool b32, .int .i64 (wk : Nat), .int .i64 (mo : Nat)])) #[.int .i64 (k : Nat), .int .i64 (f : Nat), .int .i64 (t : Nat), .int .i64 zca, .int .i64 zrg, .int .i64 zow, .string ⟨#[]⟩, .int .i64 0, .int .i64 0, .slice none 0 0, .slice none 0 0]) := HW12.out.call hav hrv
        have HZv := hid hzv
        clear hav hrv hzv
        try dsimp only
        obtain ⟨⟨c0, c1, c2, c3, c4, c5⟩, c6, c7, c8, c9, c10⟩ := row11 HWv1.out.bx
        obtain ⟨v2, hv2⟩ : ∃ v2, v2 = v1.setCell ⟨X, 6, none⟩ (.string kk) := ⟨_, rfl⟩
        have HWv2 : Hid (MX wB w v2 R p N c B (plc (tx B (x6 B k q3) 1 16)) Y X (some (H, #[.bool b1, .bool b2, .bool b4, .bool true, .bool b16, .bool b32, .int .i64 (wk : Nat), .int .i64 (mo : Nat)])) #[.int .i64 (k : Nat), .int .i64 (f : Nat), .int .i64 (t : Nat), .int .i64 zca, .int .i64 zrg, .int .i64 zow, .string kk, .int .i64 0, .int .i64 0, .slice none 0 0, .slice none 0 0]) := by
          unfold Hid
          rw [hv2]
          have := HWv1.out.store 6 (.string kk)
          simpa using this
        have f0 := frozen_of_row _ _ 6 _ _ HWv1.out.bx
        go_wp2_with fail
        rw [← hv2]
        go_meet
        refine ⟨kk, HWv2.out.re (congrArg plc HO.out.symm), fun a q' e => ?_⟩
        have e' := HO.out ▸ e
        obtain ⟨q0, _, h1⟩ := tx_prev e'
        exact ⟨HZv.out a.1 a.2 q' e', (rtext_b8 HB8.out h1).1⟩
    generalize wc = w13 at *
    obtain ⟨kk, hm, hz⟩ := hcut
    have HW13 := hid hm
    have HZ13 := hid hz
    clear hm hz
    obtain ⟨h0, h1, h2, h3, h4, h5, h6, h7⟩ := row8v (HW13.out.hb _ rfl)
    go_upto_if 52 with fail
    clear h0 h1 h2 h3 h4 h5 h6 h7
    go_cut [] from 53 to 60 (fun wx => ∃ zdn zdc : Int, MX wB w wx R p N c B (plc (x8b B k q3)) Y X (some (H, #[.bool b1, .bool b2, .bool b4, .bool b8, .bool b16, .bool b32, .int .i64 (wk : Nat), .int .i64 (mo : Nat)])) #[.int .i64 (k : Nat), .int .i64 (f : Nat), .int .i64 (t : Nat), .int .i64 zca, .int .i64 zrg, .int .i64 zow, .string kk, .int .i64 zdn, .int .i64 zdc, .slice none 0 0, .slice none 0 0] ∧ ∀ a q', x8b B k q3 = .ok (a, q') → zdn = (a.1.2 : Nat) ∧ zdc = (a.2 : Nat))
    case first =>
      cases b16 with
      | false =>
        have E0 : plc (x8b B k q3) = plc (x7 B k q3) ∧ ∀ a q', x8b B k q3 = .ok (a, q') → a.1.2 = 0 ∧ a.2 = 0 := by
          unfold x8b x8
          rw [← Hb16.out]
          refine ⟨(ox_no _ _ _).trans (ox_no _ _ _), fun a q' e => ?_⟩
          obtain ⟨h1, h2⟩ := ox_val e
          exact ⟨(ox_val h2).1, h1⟩
        have HO := hid E0
        clear E0
        go_wp2_with fail
        go_meet
        exact ⟨0, 0, HW13.out.re HO.out.1.symm, fun a q' e => (by obtain ⟨h1, h2⟩ := HO.out.2 a q' e; rw [h1, h2]; exact ⟨rfl, rfl⟩)⟩
      | true =>
        have HO : Hid (x8b B k q3 = nx B (nx B (x7 B k q3) (fun _ => 0) 7) (fun _ => 1) 1048576) := by unfold Hid x8b x8; rw [← Hb16.out]; rfl
        go_wp2_with fail
        refine (rnumI_any HW13.out.rs (fun _ => 0) 7 0 (fun _ _ _ => ⟨rfl, by omega⟩) (by omega)).mono ?_
        rintro _ v1 ⟨hav, zdn, rfl, hrv, hzv⟩
        have HWv1 : Hid (MX wB w v1 R p N c B (plc (nx B (x7 B k q3) (fun _ => 0) 7)) Y X (some (H, #[.bool b1, .bool b2, .bool b4, .bool b8, .bool true, .bool b32, .int .i64 (wk : Nat), .int .i64 (mo : Nat)])) #[.int .i64 (k : Nat), .int .i64 (f : Nat), .int .i64 (t : Nat), .int .i64 zca, .int .i64 zrg, .int .i64 zow, .string kk, .int .i64 0, .int .i64 0, .slice none 0 0, .slice none 0 0]) := HW13.out.call hav hrv
        have HZv := hid hzv
        clear hav hrv hzv
        try dsimp only
        obtain ⟨⟨c0, c1, c2, c3, c4, c5⟩, c6, c7, c8, c9, c10⟩ := row11 HWv1.out.bx
        obtain ⟨v2, hv2⟩ : ∃ v2, v2 = v1.setCell ⟨X, 7, none⟩ (.int .i64 zdn) := ⟨_, rfl⟩
        have HWv2 : Hid (MX wB w v2 R p N c B (plc (nx B (x7 B k q3) (fun _ => 0) 7)) Y X (some (H, #[.bool b1, .bool b2, .bool b4, .bool b8, .bool true, .bool b32, .int .i64 (wk : Nat), .int .i64 (mo : Nat)])) #[.int .i64 (k : Nat), .int .i64 (f : Nat), .int .i64 (t : Nat), .int .i64 zca, .int .i64 zrg, .int .i64 zow, .string kk, .int .i64 zdn, .int .i64 0, .slice none 0 0, .slice none 0 0]) := by
          unfold Hid
          rw [hv2]
          have := HWv1.out.store 7 (.int .i64 zdn)
          simpa using this
        have f0 := frozen_of_row _ _ 7 _ _ HWv1.out.bx
        go_wp2_with fail
        rw [← hv2]
        clear hv2 f0
        clear c0 c1 c2 c3 c4 c5 c6 c7 c8 c9 c10
        refine (rnumI_any HWv2.out.rs (fun _ => 1) 1048576 1 (fun _ _ _ => ⟨rfl, by omega⟩) (by omega)).mono ?_
        rintro _ v3 ⟨hav, zdc, rfl, hrv, hzv⟩
        have HWv3 : Hid (MX wB w v3 R p N c B (plc (nx B (nx B (x7 B k q3) (fun _ => 0) 7) (fun _ => 1) 1048576)) Y X (some (H, #[.bool b1, .bool b2, .bool b4, .bool b8, .bool true, .bool b32, .int .i64 (wk : Nat), .int .i64 (mo : Nat)])) #[.int .i64 (k : Nat), .int .i64 (f : Nat), .int .i64 (t : Nat), .int .i64 zca, .int .i64 zrg, .int .i64 zow, .string kk, .int .i64 zdn, .int .i64 0, .slice none 0 0, .slice none 0 0]) := HWv2.out.call hav hrv
        have HZv3 := hid hzv
        clear hav hrv hzv
        try dsimp only
        obtain ⟨⟨c0, c1, c2, c3, c4, c5⟩, c6, c7, c8, c9, c10⟩ := row11 HWv3.out.bx
        obtain ⟨v4, hv4⟩ : ∃ v4, v4 = v3.setCell ⟨X, 8, none⟩ (.int .i64 zdc) := ⟨_, rfl⟩
        have HWv4 : Hid (MX wB w v4 R p N c B (plc (nx B (nx B (x7 B k q3) (fun _ => 0) 7) (fun _ => 1) 1048576)) Y X (some (H, #[.bool b1, .bool b2, .bool b4, .bool b8, .bool true, .bool b32, .int .i64 (wk : Nat), .int .i64 (mo : Nat)])) #[.int .i64 (k : Nat), .int .i64 (f : Nat), .int .i64 (t : Nat), .int .i64 zca, .int .i64 zrg, .int .i64 zow, .string kk, .int .i64 zdn, .int .i64 zdc, .slice none 0 0, .slice none 0 0]) := by
          unfold Hid
          rw [hv4]
          have := HWv3.out.store 8 (.int .i64 zdc)
          simpa using this
        have f0 := frozen_of_row _ _ 8 _ _ HWv3.out.bx
        go_wp2_with fail
        rw [← hv4]
        go_meet
        refine ⟨zdn, zdc, HWv4.out.re (congrArg plc HO.out.symm), fun a q' e => ?_⟩
        have e' := HO.out ▸ e
        obtain ⟨q0, h0, _⟩ := nx_prev2 e'
        exact ⟨HZv.out a.1.1 a.1.2 q0 h0, HZv3.out a.1 a.2 q' e'⟩
    generalize wc = w14 at *
    obtain ⟨zdn, zdc, hm, hz⟩ := hcut
    have HW14 := hid hm
    have HZ14 := hid hz
    clear hm hz
    obtain ⟨h0, h1, h2, h3, h4, h5, h6, h7⟩ := row8v (HW14.out.hb _ rfl)
    go_upto_if 62 with fail
    clear h0 h1 h2 h3 h4 h5 h6 h7
    go_cut [] from 63 to 68 (fun wx => ∃ (ss : Sl) (l : List S), MX wB w wx R p N c B (plc (x9 B k q3)) Y X (some (H, #[.bool b1, .bool b2, .bool b4, .bool b8, .bool b16, .bool b32, .int .i64 (wk : Nat), .int .i64 (mo : Nat)])) #[.int .i64 (k : Nat), .int .i64 (f : Nat), .int .i64 (t : Nat), .int .i64 zca, .int .i64 zrg, .int .i64 zow, .string kk, .int .i64 zdn, .int .i64 zdc, .slice ss.p ss.n ss.c, .slice none 0 0] ∧ (Nw wB wx 48 3 ss (flat l) ∧ ss.n = l.length ∧ ∀ x ∈ l, x.t < 2 ^ 64) ∧ l.length ≤ 8 ∧ ∀ a q', x9 B k q3 = .ok (a, q') → l = a.2)
    case first =>
      cases b32 with
      | false =>
        have E0 : plc (x9 B k q3) = plc (x8b B k q3) ∧ ∀ a q', x9 B k q3 = .ok (a, q') → a.2 = [] := by unfold x9; rw [← Hb32.out]; exact ⟨ox_no _ _ _, fun a q' e => (ox_val e).1⟩
        have HO := hid E0
        clear E0
        have HAP : Hid (Apart [] wB w14) := by obtain ⟨_, _, _, h⟩ := HW14.out.rs.blk; exact h
        go_wp2_with fail
        go_meet
        exact ⟨⟨none, 0, 0⟩, [], HW14.out.re HO.out.1.symm, ⟨⟨World.ownsRow_nil _ _ _ _, by simp [Sl.v, Value.ownBlock], HAP.out⟩, rfl, by simp⟩, by simp, fun a q' e => (HO.out.2 a q' e).symm⟩
      | true =>
        have HO : Hid (x9 B k q3 = st B (x8b B k q3) (mbK k)) := by unfold Hid x9; rw [← Hb32.out]; rfl
        obtain ⟨⟨c0, c1, c2, c3, c4, c5⟩, c6, c7, c8, c9, c10⟩ := row11 HW14.out.bx
        obtain ⟨pl, Hpl⟩ : ∃ pl, Hid ((((k : Nat) : Int) == 5) = pl) := ⟨_, rfl⟩
        have HMB : Hid (mbK k = if pl = true then 0 else 18446744073709551615) := by
          unfold Hid mbK
          rw [← Hpl.out]
          by_cases hk5 : k = 5
          · simp [hk5]
          · have : ¬ ((k : Nat) : Int) = 5 := by omega
            simp [hk5, this]
        go_wp2_with fail
        rw [Hpl.out]
        refine (rsetX_any HW14.out.rs pl (mbK k) HMB.out).mono ?_
        rintro _ v1 ⟨hav, ss, l, rfl, hl8, hss, hrv, hzv⟩
        have HWv1 : Hid (MX wB w v1 R p N c B (plc (st B (x8b B k q3) (mbK k))) Y X (some (H, #[.bool b1, .bool b2, .bool b4, .bool b8, .bool b16, .bool true, .int .i64 (wk : Nat), .int .i64 (mo : Nat)])) #[.int .i64 (k : Nat), .int .i64 (f : Nat), .int .i64 (t : Nat), .int .i64 zca, .int .i64 zrg, .int .i64 zow, .string kk, .int .i64 zdn, .int .i64 zdc, .slice none 0 0, .slice none 0 0]) := HW14.out.call hav hrv
        have HZv := hid hzv
        have HSS := hid hss
        clear hav hrv hzv hss c0 c1 c2 c3 c4 c5 c6 c7 c8 c9 c10
        try dsimp only
        obtain ⟨⟨c0, c1, c2, c3, c4, c5⟩, c6, c7, c8, c9, c10⟩ := row11 HWv1.out.bx
        obtain ⟨v2, hv2⟩ : ∃ v2, v2 = v1.setCell ⟨X, 9, none⟩ (.slice ss.p ss.n ss.c) := ⟨_, rfl⟩
        have HWv2 : Hid (MX wB w v2 R p N c B (plc (st B (x8b B k q3) (mbK k))) Y X (some (H, #[.bool b1, .bool b2, .bool b4, .bool b8, .bool b16, .bool true, .int .i64 (wk : Nat), .int .i64 (mo : Nat)])) #[.int .i64 (k : Nat), .int .i64 (f : Nat), .int .i64 (t : Nat), .int .i64 zca, .int .i64 zrg, .int .i64 zow, .string kk, .int .i64 zdn, .int .i64 zdc, .slice ss.p ss.n ss.c, .slice none 0 0]) := by
          unfold Hid
          rw [hv2]
          have := HWv1.out.store 9 (.slice ss.p ss.n ss.c)
          simpa using this
        have f0 := frozen_of_row _ _ 9 _ _ HWv1.out.bx
        have HNv : Hid (Nw wB v2 48 3 ss (flat l)) := by
          unfold Hid
          rw [hv2]
          refine HSS.out.1.keepT ((Apart.refl [X] _).setCell (.inl (by simp)) _) ?_ (by intro k hk cur e; simp at hk; rw [hk, HWv1.out.bx] at e; simp at e)
          exact HSS.out.1.ap.trans' ((Apart.refl [X] _).setCell (.inl (by simp)) _) (by intro y hy; simp at hy; rw [hy]; exact .inr HWv1.out.bX)
        go_wp2_with fail
        rw [← hv2]
        go_meet
        exact ⟨ss, l, HWv2.out.re (congrArg plc HO.out.symm), ⟨HNv.out, HSS.out.2⟩, hl8, fun a q' e => (HZv.out a.1 a.2 q' (HO.out ▸ e)).symm⟩
    generalize wc = w15 at *
    obtain ⟨ss, l, hm, hss, hl8, hz⟩ := hcut
    have HW15 := hid hm
    have HZ15 := hid hz
    have HSS := hid hss
    have HN15 := hid hss.1
    clear hm hz hss
    obtain ⟨h0, h1, h2, h3, h4, h5, h6, h7⟩ := row8v (HW15.out.hb _ rfl)
    obtain ⟨b73, Hb73⟩ : ∃ b, Hid ((((wk : Nat) : Int) == 2) = b) := ⟨_, rfl⟩
    have HB73 : Hid (decide (wk = 2) = b73) := by
      unfold Hid
      rw [← Hb73.out]
      by_cases h2 : wk = 2
      · simp [h2]
      · have : ¬ ((wk : Nat) : Int) = 2 := by omega
        simp [h2, this]
    have HMO : Hid (mo ≤ 512) := by unfold Hid; rw [Hmo.out]; exact moK_le k
    go_upto_if 73 with fail
    rw [Hb73.out]
    go_cut [6] from 74 to 77 (fun tv wx => ∃ zn : Int, tv = .int .i64 zn ∧ MX wB w wx R p N c B (plc (x10 B k q3)) Y X (some (H, #[.bool b1, .bool b2, .bool b4, .bool b8, .bool b16, .bool b32, .int .i64 (wk : Nat), .int .i64 (mo : Nat)])) #[.int .i64 (k : Nat), .int .i64 (f : Nat), .int .i64 (t : Nat), .int .i64 zca, .int .i64 zrg, .int .i64 zow, .string kk, .int .i64 zdn, .int .i64 zdc, .slice ss.p ss.n ss.c, .slice none 0 0] ∧ Nw wB wx 48 3 ss (flat l) ∧ ∀ a q', x10 B k q3 = .ok (a, q') → zn = (a.2 : Nat) ∧ a.2 ≤ 512)
    case first =>
      cases b73 with
      | false =>
        have E0 : plc (x10 B k q3) = plc (x9 B k q3) ∧ ∀ a q', x10 B k q3 = .ok (a, q') → a.2 = wk := by unfold x10; rw [← Hwk.out, HB73.out]; exact ⟨ox_no _ _ _, fun a q' e => (ox_val e).1⟩
        have HO := hid E0
        clear E0
        have HWL : Hid (wk ≤ 2) := by unfold Hid; rw [Hwk.out]; unfold wrK; split <;> (try split) <;> omega
        go_wp2_with fail
        go_meet
        exact ⟨((wk : Nat) : Int), rfl, HW15.out.re HO.out.1.symm, HN15.out, fun a q' e => (by rw [HO.out.2 a q' e]; exact ⟨rfl, by have := HWL.out; omega⟩)⟩
      | true =>
        have HO : Hid (x10 B k q3 = nx B (x9 B k q3) (fun _ => 0) mo) := by unfold Hid x10; rw [← Hwk.out, HB73.out, Hmo.out]; rfl
        have hmo := HMO.out
        go_wp2_with fail
        refine (rnumI_any HW15.out.rs (fun _ => 0) mo 0 (fun _ _ _ => ⟨rfl, by omega⟩) (by omega)).mono ?_
        rintro _ v1 ⟨hav, zn, rfl, hrv, hzv⟩
        have HWv1 : Hid (MX wB w v1 R p N c B (plc (nx B (x9 B k q3) (fun _ => 0) mo)) Y X (some (H, #[.bool b1, .bool b2, .bool b4, .bool b8, .bool b16, .bool b32, .int .i64 (wk : Nat), .int .i64 (mo : Nat)])) #[.int .i64 (k : Nat), .int .i64 (f : Nat), .int .i64 (t : Nat), .int .i64 zca, .int .i64 zrg, .int .i64 zow, .string kk, .int .i64 zdn, .int .i64 zdc, .slice ss.p ss.n ss.c, .slice none 0 0]) := HW15.out.call hav hrv
        have HNv := hid (HN15.out.rd107 HW15.out.rs hav (by decide))
        have HZv := hid hzv
        clear hav hrv hzv
        try dsimp only
        go_wp2_with fail
        go_meet
        refine ⟨zn, rfl, HWv1.out.re (congrArg plc HO.out.symm), HNv.out, fun a q' e => ?_⟩
        have e' := HO.out ▸ e
        obtain ⟨q0, _, h1⟩ := nx_prev2 e'
        have := rbound_le h1
        exact ⟨HZv.out a.1 a.2 q' e', by omega⟩
    generalize wc = w16 at *
    obtain ⟨zn, rfl, hm, hss, hz⟩ := hcut
    have HW16 := hid hm
    have HZ16 := hid hz
    have HN16 := hid hss
    clear hm hz hss
    clear h0 h1 h2 h3 h4 h5 h6 h7
    obtain ⟨b85, Hb85⟩ : ∃ b, Hid (b = ((((k : Nat) : Int) == 5) || (((k : Nat) : Int) == 7))) := ⟨_, rfl⟩
    go_upto_region 25 with fail
    obtain ⟨⟨c0, c1, c2, c3, c4, c5⟩, c6, c7, c8, c9, c10⟩ := row11 HW16.out.bx
    go_cut [85] from 78 to 85 (fun t wx => t = .bool b85 ∧ wx = w16)
    case first =>
      cases h5 : (((k : Nat) : Int) == 5)
      case true =>
        have hb : b85 = true := by rw [Hb85.out, h5]; rfl
        subst hb
        go_wp2_with fail
        go_meet
        exact ⟨rfl, rfl⟩
      case false =>
        cases h7 : (((k : Nat) : Int) == 7)
        case true =>
          have hb : b85 = true := by rw [Hb85.out, h5, h7]; rfl
          subst hb
          go_wp2_with fail
          go_meet
          exact ⟨rfl, rfl⟩
        case false =>
          have hb : b85 = false := by rw [Hb85.out, h5, h7]; rfl
          subst hb
          go_wp2_with fail
          go_meet
          exact ⟨rfl, rfl⟩
    obtain ⟨rfl, hww⟩ := hcut
    rw [hww]
    clear hww
    obtain ⟨kx, Hkx⟩ : ∃ kx, Hid (kx = if b85 = true then kk else ⟨#[]⟩) := ⟨_, rfl⟩
    go_upto_if 85 with fail
    go_cut [7] from 86 to 87 (fun t wx => t = .string kx ∧ wx = w16)
    case first =>
      cases b85 with
      | true =>
        have hb : kx = kk := by rw [Hkx.out]; rfl
        subst hb
        go_wp2_with fail
        go_meet
        exact ⟨rfl, rfl⟩
      | false =>
        have hb : kx = ⟨#[]⟩ := by rw [Hkx.out]; rfl
        subst hb
        go_wp2_with fail
        go_meet
        exact ⟨rfl, rfl⟩
    obtain ⟨rfl, hww⟩ := hcut
    rw [hww]
    clear hww
    clear c0 c1 c2 c3 c4 c5 c6 c7 c8 c9 c10
    have HZX : Hid (∀ a q', x10 B k q3 = .ok (a, q') → (zn = (a.2 : Nat) ∧ a.2 ≤ 512) ∧ l = a.1.2 ∧ zdc = (a.1.1.2 : Nat) ∧ zdn = (a.1.1.1.2 : Nat) ∧ (kk = strB a.1.1.1.1.2 ∧ ∀ b ∈ a.1.1.1.1.2, b < 256) ∧ zrg = (a.1.1.1.1.1.2 : Nat) ∧ zow = (a.1.1.1.1.1.1.2 : Nat) ∧ zca = (a.1.1.1.1.1.1.1.2 : Nat)) := fun a q' e => (by
      obtain ⟨q9, e9⟩ := oxn_prev e
      obtain ⟨q8, e8⟩ := oxs_prev e9
      obtain ⟨k1, k2⟩ := HZ14.out _ _ e8
      obtain ⟨q7, e7⟩ := oxn_prev e8
      obtain ⟨q7', e7'⟩ := oxn_prev e7
      obtain ⟨q6, e6⟩ := oxt_prev e7'
      obtain ⟨q5, e5⟩ := oxn_prev e6
      obtain ⟨q4, e4⟩ := oxn_prev e5
      exact ⟨HZ16.out a q' e, HZ15.out _ _ e9, k2, k1, HZ13.out _ _ e7', HZ12.out _ _ e6, HZ11.out _ _ e5, HZ10.out _ _ e4⟩)
    have HKX : Hid (∀ a q', x10 B k q3 = .ok (a, q') → kx = keyX k a.1.1.1.1.2) := fun a q' e => (by
      obtain ⟨_, _, _, _, ⟨h1, _⟩, _⟩ := HZX.out a q' e
      rw [Hkx.out, Hb85.out, h1]
      unfold keyX
      by_cases h5 : k = 5
      · simp [h5]
      · by_cases h7 : k = 7
        · simp [h7]
        · have i5 : ¬ ((k : Nat) : Int) = 5 := by omega
          have i7 : ¬ ((k : Nat) : Int) = 7 := by omega
          simp [h5, h7, i5, i7])
    go_wp2_with fail
    go_loopw [8, 9] (fun a b wt => ∃ (i : Nat) (sw : Sl) (s : Except Nat Nat), a = .int .i64 (i : Nat) ∧ MX wB w wt R p N c B s Y X (some (H, #[.bool b1, .bool b2, .bool b4, .bool b8, .bool b16, .bool b32, .int .i64 (wk : Nat), .int .i64 (mo : Nat)])) #[.int .i64 (k : Nat), .int .i64 (f : Nat), .int .i64 (t : Nat), .int .i64 zca, .int .i64 zrg, .int .i64 zow, .string kk, .int .i64 zdn, .int .i64 zdc, .slice ss.p ss.n ss.c, .slice sw.p sw.n sw.c] ∧ ((∃ (a10 : PA) (q10 : Nat) (es : List E) (rs : List Wr) (r : Nat), s = .ok r ∧ x10 B k q3 = .ok (a10, q10) ∧ zn = (a10.2 : Nat) ∧ i = rs.length ∧ rs.length ≤ a10.2 ∧ FX wB wt sw es rs ∧ Nw wB wt 48 3 ss (flat l) ∧ (∀ k, sw.v.ownBlock = some k → w.heap.size ≤ k) ∧ rwritesA B (keyX k a10.1.1.1.1.2) a10.2 0 0 q10 = rb (rwritesA B (keyX k a10.1.1.1.1.2) (a10.2 - rs.length) (la rs).1 (la rs).2 r) fun m q2 => .ok (rs ++ m, q2)) ∨ ∃ y, s = .error y ∧ rmX B k f t q3 = .error y)) (fun a _ _ => zn.toNat + 1 - (intOf a).toNat)
    case atStart =>
      cases hx : x10 B k q3 with
      | error y => exact ⟨0, ⟨none, 0, 0⟩, plc (x10 B k q3), rfl, HW16.out, .inr ⟨y, by rw [hx]; rfl, by unfold rmX; rw [hx]; rfl⟩⟩
      | ok tt =>
        obtain ⟨a10, q10⟩ := tt
        have HAP : Apart [] wB w16 := HN16.out.ap
        refine ⟨0, ⟨none, 0, 0⟩, plc (x10 B k q3), rfl, HW16.out, .inl ⟨a10, q10, [], [], q10, by rw [hx]; rfl, rfl, (HZ16.out a10 q10 hx).1, rfl, Nat.zero_le _, FX.nil _ _ HAP, HN16.out, by simp [Sl.v, Value.ownBlock], ?_⟩⟩
        simp only [List.length_nil, Nat.sub_zero, List.nil_append]
        exact (rb_id _).symm
    case round =>
      obtain ⟨i, sw, s, rfl, hm, hst⟩ := hrel
      have HW := hid hm
      have HST := hid hst
      obtain ⟨qr, xr, hrx, hr1, hr2⟩ := hm.rs
      obtain ⟨z0, z1, z2, z3, z4⟩ := hrx.cells
      have HR1 := hid hr1
      have HR2 := hid hr2
      clear hm hst hrx hr1 hr2
      rcases HST.out with ⟨a10, q10, es, rs, r, rfl, hx10, hzn, hi, hle, hfx, hnw, hnn, heq⟩ | ⟨y, rfl, herr⟩
      · obtain ⟨e1, e2⟩ := HR1.out r rfl
        have e1' := e1.symm
        subst e1' e2
        clear e1
        by_cases hgo : ((i : Nat) : Int) < zn
        · have HX10 := hid hx10
          have HGO := hid hgo
          have HLT : Hid (rs.length < a10.2) := by unfold Hid; omega
          have HI := hid hi
          have HZN := hid hzn
          have HFX := hid hfx
          have HNW := hid hnw
          have HNN := hid hnn
          have HEQ := hid heq
          have HK := hid (HKX.out a10 q10 hx10)
          have HKL : Hid (a10.2 ≤ 512) := (HZ16.out a10 q10 hx10).2
          have HSL : Hid (sw.n ≤ 512) := by have h1 := hfx.len; have h2 := HLT.out; have h3 := HKL.out; unfold Hid; omega
          have hib : i < 512 := by have h2 := HLT.out; have h3 := HKL.out; omega
          have HRX : Hid (RX wB wr R p N c B r (-1)) := by
            obtain ⟨q', x', h, h1, _⟩ := HW.out.rs
            obtain ⟨rfl, rfl⟩ := h1 r rfl
            exact h
          have HCW := hid (rwriteX_ok HRX.out (la rs).1 (la rs).2 kx sw (hfx.last (by have := HSL.out; omega) HRX.out.blk))
          clear hx10 hzn hi hle hfx hnw hnn heq HST HR1 HR2
          obtain ⟨⟨c0, c1, c2, c3, c4, c5⟩, c6, c7, c8, c9, c10⟩ := row11 HW.out.bx
          go_wp2_with fail
          clear z0 z1 z2 z3 z4
          refine HCW.out.mono ?_
          rintro e1 v1 hout
          obtain ⟨hav, g, rfl, hrv, hwx⟩ := outX_any hout
          have HWv1 := hid (HW.out.call hav hrv)
          have HNWv1 := hid (HNW.out.rd107 HW.out.rs hav (by decide))
          have HFXv1 := hid (HFX.out.gen hav HNWv1.out.ap (by intro k hk; simp at hk; rw [hk]; exact ⟨_, 100, HRX.out.blk, by decide, by decide, by decide⟩))
          have HWXv := hid hwx
          clear hout hav hrv hwx c0 c1 c2 c3 c4 c5 c6 c7 c8 c9 c10 HCW
          try dsimp only
          obtain ⟨v2, hv2⟩ : ∃ v2, v2 = v1.alloc (.cells #[.int .i64 g.n, .int .i64 g.c, .string g.k, .bool g.d, .slice g.v.p g.v.n g.v.c, .slice g.x.p g.x.n g.x.c] 37) := ⟨_, rfl⟩
          obtain ⟨U, HU⟩ : ∃ U, Hid (U = v1.heap.size) := ⟨_, rfl⟩
          have HA12 : Hid (Apart [] v1 v2) := by unfold Hid; rw [hv2]; exact (Apart.refl [] v1).alloc _
          have HU2 : Hid (v2.heap[U]? = some (.cells #[.int .i64 g.n, .int .i64 g.c, .string g.k, .bool g.d, .slice g.v.p g.v.n g.v.c, .slice g.x.p g.x.n g.x.c] 37 (0, 0))) := by unfold Hid; rw [HU.out, hv2]; exact heap_alloc_new v1 _
          have HWv2 := hid (HWv1.out.kept HA12.out)
          have HNWv2 := hid (HNWv1.out.kept HA12.out)
          have HFXv2 := hid (HFXv1.out.kept HA12.out)
          go_upto_region 31 with fail
          rw [← hv2, ← HU.out]
          clear hv2
          obtain ⟨s5, v3, hrun, hnw5, hs5, ap5, k5, hk5, hk6⟩ := app_any HFXv2.out.own.nw (by have := HSL.out; omega) g
          have HRUN := hid hrun
          have HTY : Hid (∀ k ∈ sw.v.ownBlock.toList, w.heap.size ≤ k ∧ wB.heap.size ≤ k ∧ ∃ cur t, v2.heap[k]? = some (.cells cur t (0, 0)) ∧ t = 37) := fun k hk => (by
            obtain ⟨cur, hc⟩ := own_typ HFXv2.out.own.nw.own (k := k) (by simpa using hk)
            exact ⟨HNN.out k (by simpa using hk), HFXv2.out.own.nw.new k (by simpa using hk), cur, 37, hc, rfl⟩)
          have HWv3 := hid (HWv2.out.app ap5 (fun k hk => (by obtain ⟨h1, h2, cur, t, h3, rfl⟩ := HTY.out k hk; exact ⟨h1, h2, cur, 37, h3, by decide, by decide, by decide⟩)))
          have HNWv3 : Hid (Nw wB v3 48 3 ss (flat l)) := HNWv2.out.keepT ap5 hnw5.ap (fun k hk cur e => (by obtain ⟨h1, h2, cu, t, h3, rfl⟩ := HTY.out k hk; rw [h3] at e; simp at e))
          have HNW5 := hid hnw5
          have HS5 := hid hs5
          have HAP5 := hid ap5
          have HNN5 : Hid (∀ k, s5.v.ownBlock = some k → w.heap.size ≤ k) := fun k hk => (by
            have e1 : k5 = k := by unfold Sl.v at hk; rw [hk5] at hk; simpa [Value.ownBlock] using hk
            rw [← e1]
            rcases hk6 with h1 | h1
            · exact HNN.out k5 h1
            · exact Nat.le_trans HWv2.out.ap.size h1)
          obtain ⟨v4, hv4⟩ : ∃ v4, v4 = v3.setCell ⟨X, 10, none⟩ (.slice s5.p s5.n s5.c) := ⟨_, rfl⟩
          have aX : Apart [X] v3 v4 := by rw [hv4]; exact (Apart.refl [X] _).setCell (.inl (by simp)) _
          have aB : Apart [] wB v4 := hnw5.ap.trans' aX (by intro y hy; simp at hy; rw [hy]; exact .inr HWv3.out.bX)
          have hX3 := HWv3.out.bx
          have HWv4 : Hid (MX wB w v4 R p N c B (plc (rwrite B r (la rs).1 (la rs).2 kx)) Y X (some (H, #[.bool b1, .bool b2, .bool b4, .bool b8, .bool b16, .bool b32, .int .i64 (wk : Nat), .int .i64 (mo : Nat)])) #[.int .i64 (k : Nat), .int .i64 (f : Nat), .int .i64 (t : Nat), .int .i64 zca, .int .i64 zrg, .int .i64 zow, .string kk, .int .i64 zdn, .int .i64 zdc, .slice ss.p ss.n ss.c, .slice s5.p s5.n s5.c]) := by
            unfold Hid
            rw [hv4]
            have := HWv3.out.store 10 (.slice s5.p s5.n s5.c)
            simpa using this
          have HNWv4 : Hid (Nw wB v4 48 3 ss (flat l)) := HNWv3.out.keepT aX aB (by intro k hk cur e; simp at hk; rw [hk, hX3] at e; simp at e)
          have HNW54 : Hid (Nw wB v4 37 6 s5 (flatE es ++ E.cs g)) := HNW5.out.keepT aX aB (by intro k hk cur e; simp at hk; rw [hk, hX3] at e; simp at e)
          have HPUSH : Hid (∀ a, WX wB v2 g a → FX wB v4 s5 (es ++ [g]) (rs ++ [a])) := fun a ha => (HFXv2.out.push ha HNW5.out HS5.out HAP5.out).gen aX aB (by intro k hk; simp at hk; rw [hk]; exact ⟨_, 29, hX3, by decide, by decide, by decide⟩)
          have f0 := frozen_of_row _ _ 10 _ _ hX3
          obtain ⟨⟨d0, d1, d2, d3, d4, d5⟩, d6, d7, d8, d9, d10⟩ := row11 hX3
          obtain ⟨⟨c0, c1, c2, c3, c4, c5⟩, c6, c7, c8, c9, c10⟩ := row11 HWv2.out.bx
          obtain ⟨u0, u1, u2, u3, u4, u5⟩ := row6 HU2.out
          clear hrun hnw5 hs5 ap5 hk5 hk6 aX aB hX3
          go_wp2_with (at_builtin; refine wpList_app2 rfl (.tmp 106) (.tmp 108) 27 27 rfl _ _ rfl rfl _ _ HRUN.out ?_)
          rw [← hv4]
          clear hv4 f0 d0 d1 d2 d3 d4 d5 d6 d7 d8 d9 d10 c0 c1 c2 c3 c4 c5 c6 c7 c8 c9 c10 u0 u1 u2 u3 u4 u5
          go_roundw
          case rel =>
            refine ⟨i + 1, s5, plc (rwrite B r (la rs).1 (la rs).2 kx), by go_num, HWv4.out, ?_⟩
            have hE := HEQ.out
            rw [show a10.2 - rs.length = (a10.2 - (rs.length + 1)) + 1 from by have := HLT.out; omega, rwritesA, rb_rb, ← HK.out] at hE
            cases hrw : rwrite B r (la rs).1 (la rs).2 kx with
            | error y =>
              refine .inr ⟨y, rfl, ?_⟩
              unfold rmX
              rw [HX10.out, rb_ok, ← HK.out, hE, hrw]
              rfl
            | ok tt =>
              obtain ⟨a, q'⟩ := tt
              refine .inl ⟨a10, q10, es ++ [g], rs ++ [a], q', rfl, HX10.out, HZN.out, ?_, ?_, HPUSH.out a ((HWXv.out a q' hrw).kept HA12.out), HNWv4.out, HNN5.out, ?_⟩
              · rw [List.length_append, HI.out]; rfl
              · rw [List.length_append]; have := HLT.out; simp; omega
              · rw [← HK.out, hE, hrw]
                simp only [rb_ok, rb_rb]
                rw [la_snoc, List.length_append]
                simp only [List.append_assoc, List.singleton_append, List.length_singleton]
          case measure => have := HGO.out; simp [intOf]; omega
        · have HX10 := hid hx10
          have HLE : Hid (rs.length = a10.2) := by unfold Hid; omega
          have HFX := hid hfx
          have HNW := hid hnw
          have HEQ := hid heq
          clear hx10 hzn hi hle hfx hnw hnn heq HST HR1 HR2
          obtain ⟨⟨c0, c1, c2, c3, c4, c5⟩, c6, c7, c8, c9, c10⟩ := row11 HW.out.bx
          obtain ⟨⟨y0, y1, y2, y3, y4, y5⟩, y6, y7, y8, y9, y10⟩ := row11 HW.out.by'
          have f0 := frozen_of_row _ _ 0 _ _ HW.out.by'
          have f1 := frozen_of_row _ _ 1 _ _ HW.out.by'
          have f2 := frozen_of_row _ _ 2 _ _ HW.out.by'
          have f3 := frozen_of_row _ _ 3 _ _ HW.out.by'
          have f4 := frozen_of_row _ _ 4 _ _ HW.out.by'
          have f5 := frozen_of_row _ _ 5 _ _ HW.out.by'
          have f6 := frozen_of_row _ _ 6 _ _ HW.out.by'
          have f7 := frozen_of_row _ _ 7 _ _ HW.out.by'
          have f8 := frozen_of_row _ _ 8 _ _ HW.out.by'
          have f9 := frozen_of_row _ _ 9 _ _ HW.out.by'
          have f10 := frozen_of_row _ _ 10 _ _ HW.out.by'
          obtain ⟨wz, Hwz⟩ : ∃ wz, Hid (wz = (((((((((((wr.setCell ⟨Y, 0, none⟩ (.int .i64 (k : Nat))).setCell ⟨Y, 1, none⟩ (.int .i64 (f : Nat))).setCell ⟨Y, 2, none⟩ (.int .i64 (t : Nat))).setCell ⟨Y, 3, none⟩ (.int .i64 zca)).setCell ⟨Y, 4, none⟩ (.int .i64 zrg)).setCell ⟨Y, 5, none⟩ (.int .i64 zow)).setCell ⟨Y, 6, none⟩ (.string kk)).setCell ⟨Y, 7, none⟩ (.int .i64 zdn)).setCell ⟨Y, 8, none⟩ (.int .i64 zdc)).setCell ⟨Y, 9, none⟩ (.slice ss.p ss.n ss.c)).setCell ⟨Y, 10, none⟩ (.slice sw.p sw.n sw.c))) := ⟨_, rfl⟩
          have HYz : Hid (wz.heap[Y]? = some (.cells #[.int .i64 (k : Nat), .int .i64 (f : Nat), .int .i64 (t : Nat), .int .i64 zca, .int .i64 zrg, .int .i64 zow, .string kk, .int .i64 zdn, .int .i64 zdc, .slice ss.p ss.n ss.c, .slice sw.p sw.n sw.c] 29 (0, 0))) := by
            unfold Hid
            rw [Hwz.out]
            have q0 := heap_setCell_same wr Y 0 _ 29 (.int .i64 (k : Nat)) HW.out.by'
            have q1 := heap_setCell_same _ Y 1 _ 29 (.int .i64 (f : Nat)) q0
            have q2 := heap_setCell_same _ Y 2 _ 29 (.int .i64 (t : Nat)) q1
            have q3 := heap_setCell_same _ Y 3 _ 29 (.int .i64 zca) q2
            have q4 := heap_setCell_same _ Y 4 _ 29 (.int .i64 zrg) q3
            have q5 := heap_setCell_same _ Y 5 _ 29 (.int .i64 zow) q4
            have q6 := heap_setCell_same _ Y 6 _ 29 (.string kk) q5
            have q7 := heap_setCell_same _ Y 7 _ 29 (.int .i64 zdn) q6
            have q8 := heap_setCell_same _ Y 8 _ 29 (.int .i64 zdc) q7
            have q9 := heap_setCell_same _ Y 9 _ 29 (.slice ss.p ss.n ss.c) q8
            have q10 := heap_setCell_same _ Y 10 _ 29 (.slice sw.p sw.n sw.c) q9
            simpa using q10
          have HSz : Hid (Apart [Y] wr wz) := by unfold Hid; rw [Hwz.out]; exact (((((((((((Apart.refl _ _).setCell (.inl (by simp)) _).setCell (.inl (by simp)) _).setCell (.inl (by simp)) _).setCell (.inl (by simp)) _).setCell (.inl (by simp)) _).setCell (.inl (by simp)) _).setCell (.inl (by simp)) _).setCell (.inl (by simp)) _).setCell (.inl (by simp)) _).setCell (.inl (by simp)) _).setCell (.inl (by simp)) _
          have HAz : Hid (Apart [R] w wz) := HW.out.ap.trans' HSz.out (by intro y hy; simp at hy; rw [hy]; exact .inr HW.out.wY)
          have HRz := hid (HW.out.rs.app HSz.out (by intro y hy; simp at hy; rw [hy]; exact ⟨HW.out.bY, _, 29, HW.out.by', by decide⟩))
          have aB : Apart [] wB wz := HNW.out.ap.trans' HSz.out (by intro y hy; simp at hy; rw [hy]; exact .inr HW.out.bY)
          have HNWz : Hid (Nw wB wz 48 3 ss (flat l)) := HNW.out.keepT HSz.out aB (by intro k hk cur e; simp at hk; rw [hk, HW.out.by'] at e; simp at e)
          have HFXz : Hid (FX wB wz sw es rs) := HFX.out.gen HSz.out aB (by intro k hk; simp at hk; rw [hk]; exact ⟨_, 29, HW.out.by', by decide, by decide, by decide⟩)
          clear aB
          go_wp2_with fail
          rw [← Hwz.out]
          refine bodyPost_ret (results_cell_row rfl _ _ Y 29 _ _ _ rfl HYz.out Tryz.underlying29 rfl size29) rfl ?_
          refine ⟨HAz.out, ?_⟩
          obtain ⟨qz, xz, hrz, hz1, hz2⟩ := HRz.out
          obtain ⟨hqz, hxz⟩ := hz1 r rfl
          rw [hqz, hxz] at hrz
          obtain ⟨_, e2, e3, e4, ⟨e5, e5'⟩, e6, e7, e8⟩ := HZX.out a10 q10 HX10.out
          have hfin : rmX B k f t q3 = .ok (mkM k f t a10 rs, r) := by
            unfold rmX
            rw [HX10.out, rb_ok, HEQ.out, HLE.out, Nat.sub_self, rwritesA]
            simp [rb_ok]
          rw [HF.out, hfin]
          refine ⟨⟨_, rfl, ⟨k, f, t, a10.1.1.1.1.1.1.1.2, a10.1.1.1.1.1.2, a10.1.1.1.1.1.1.2, kk, a10.1.1.1.2, a10.1.1.2, ss, sw⟩, es, ?_, ⟨rfl, rfl, rfl, rfl, rfl, rfl, e5, rfl, rfl, e5'⟩, ⟨?_, ?_, ?_, ?_⟩, HFXz.out, ?_⟩, hrz⟩
          · rw [e8, e7, e6, e4, e3]; rfl
          · show Nw wB wz 48 3 ss (flat a10.1.2)
            rw [← e2]; exact HNWz.out
          · show ss.n = a10.1.2.length
            rw [← e2]; exact HSS.out.2.1
          · show a10.1.2.length ≤ 8
            rw [← e2]; exact hl8
          · show ∀ x ∈ a10.1.2, x.t < 2 ^ 64
            rw [← e2]; exact HSS.out.2.2
          · show rs.length ≤ 512
            rw [HLE.out]; exact (HZ16.out a10 q10 HX10.out).2
      · have HER := hid herr
        have hxy := HR2.out y rfl
        subst hxy
        have hy0 : ¬ ((y : Nat) : Int) < 0 := by omega
        clear herr HST HR1 HR2
        by_cases hgo : ((i : Nat) : Int) < zn
        · skip
          obtain ⟨⟨c0, c1, c2, c3, c4, c5⟩, c6, c7, c8, c9, c10⟩ := row11 HW.out.bx
          obtain ⟨⟨y0, y1, y2, y3, y4, y5⟩, y6, y7, y8, y9, y10⟩ := row11 HW.out.by'
          have f0 := frozen_of_row _ _ 0 _ _ HW.out.by'
          have f1 := frozen_of_row _ _ 1 _ _ HW.out.by'
          have f2 := frozen_of_row _ _ 2 _ _ HW.out.by'
          have f3 := frozen_of_row _ _ 3 _ _ HW.out.by'
          have f4 := frozen_of_row _ _ 4 _ _ HW.out.by'
          have f5 := frozen_of_row _ _ 5 _ _ HW.out.by'
          have f6 := frozen_of_row _ _ 6 _ _ HW.out.by'
          have f7 := frozen_of_row _ _ 7 _ _ HW.out.by'
          have f8 := frozen_of_row _ _ 8 _ _ HW.out.by'
          have f9 := frozen_of_row _ _ 9 _ _ HW.out.by'
          have f10 := frozen_of_row _ _ 10 _ _ HW.out.by'
          obtain ⟨wz, Hwz⟩ : ∃ wz, Hid (wz = (((((((((((wr.setCell ⟨Y, 0, none⟩ (.int .i64 (k : Nat))).setCell ⟨Y, 1, none⟩ (.int .i64 (f : Nat))).setCell ⟨Y, 2, none⟩ (.int .i64 (t : Nat))).setCell ⟨Y, 3, none⟩ (.int .i64 zca)).setCell ⟨Y, 4, none⟩ (.int .i64 zrg)).setCell ⟨Y, 5, none⟩ (.int .i64 zow)).setCell ⟨Y, 6, none⟩ (.string kk)).setCell ⟨Y, 7, none⟩ (.int .i64 zdn)).setCell ⟨Y, 8, none⟩ (.int .i64 zdc)).setCell ⟨Y, 9, none⟩ (.slice ss.p ss.n ss.c)).setCell ⟨Y, 10, none⟩ (.slice sw.p sw.n sw.c))) := ⟨_, rfl⟩
          have HYz : Hid (wz.heap[Y]? = some (.cells #[.int .i64 (k : Nat), .int .i64 (f : Nat), .int .i64 (t : Nat), .int .i64 zca, .int .i64 zrg, .int .i64 zow, .string kk, .int .i64 zdn, .int .i64 zdc, .slice ss.p ss.n ss.c, .slice sw.p sw.n sw.c] 29 (0, 0))) := by
            unfold Hid
            rw [Hwz.out]
            have q0 := heap_setCell_same wr Y 0 _ 29 (.int .i64 (k : Nat)) HW.out.by'
            have q1 := heap_setCell_same _ Y 1 _ 29 (.int .i64 (f : Nat)) q0
            have q2 := heap_setCell_same _ Y 2 _ 29 (.int .i64 (t : Nat)) q1
            have q3 := heap_setCell_same _ Y 3 _ 29 (.int .i64 zca) q2
            have q4 := heap_setCell_same _ Y 4 _ 29 (.int .i64 zrg) q3
            have q5 := heap_setCell_same _ Y 5 _ 29 (.int .i64 zow) q4
            have q6 := heap_setCell_same _ Y 6 _ 29 (.string kk) q5
            have q7 := heap_setCell_same _ Y 7 _ 29 (.int .i64 zdn) q6
            have q8 := heap_setCell_same _ Y 8 _ 29 (.int .i64 zdc) q7
            have q9 := heap_setCell_same _ Y 9 _ 29 (.slice ss.p ss.n ss.c) q8
            have q10 := heap_setCell_same _ Y 10 _ 29 (.slice sw.p sw.n sw.c) q9
            simpa using q10
          have HSz : Hid (Apart [Y] wr wz) := by unfold Hid; rw [Hwz.out]; exact (((((((((((Apart.refl _ _).setCell (.inl (by simp)) _).setCell (.inl (by simp)) _).setCell (.inl (by simp)) _).setCell (.inl (by simp)) _).setCell (.inl (by simp)) _).setCell (.inl (by simp)) _).setCell (.inl (by simp)) _).setCell (.inl (by simp)) _).setCell (.inl (by simp)) _).setCell (.inl (by simp)) _).setCell (.inl (by simp)) _
          have HAz : Hid (Apart [R] w wz) := HW.out.ap.trans' HSz.out (by intro y hy; simp at hy; rw [hy]; exact .inr HW.out.wY)
          have HRz := hid (HW.out.rs.app HSz.out (by intro y hy; simp at hy; rw [hy]; exact ⟨HW.out.bY, _, 29, HW.out.by', by decide⟩))
          go_wp2_with fail
          rw [← Hwz.out]
          refine bodyPost_ret (results_cell_row rfl _ _ Y 29 _ _ _ rfl HYz.out Tryz.underlying29 rfl size29) rfl ?_
          refine ⟨HAz.out, ?_⟩
          obtain ⟨qz, xz, hrz, hz1, hz2⟩ := HRz.out
          have hxz := hz2 y rfl
          subst hxz
          rw [HF.out, HER.out]
          exact ⟨⟨_, rfl, k, f, t, zca, zrg, zow, kk, zdn, zdc, ss, sw, rfl⟩, qz, hrz⟩
        · skip
          obtain ⟨⟨c0, c1, c2, c3, c4, c5⟩, c6, c7, c8, c9, c10⟩ := row11 HW.out.bx
          obtain ⟨⟨y0, y1, y2, y3, y4, y5⟩, y6, y7, y8, y9, y10⟩ := row11 HW.out.by'
          have f0 := frozen_of_row _ _ 0 _ _ HW.out.by'
          have f1 := frozen_of_row _ _ 1 _ _ HW.out.by'
          have f2 := frozen_of_row _ _ 2 _ _ HW.out.by'
          have f3 := frozen_of_row _ _ 3 _ _ HW.out.by'
          have f4 := frozen_of_row _ _ 4 _ _ HW.out.by'
          have f5 := frozen_of_row _ _ 5 _ _ HW.out.by'
          have f6 := frozen_of_row _ _ 6 _ _ HW.out.by'
          have f7 := frozen_of_row _ _ 7 _ _ HW.out.by'
          have f8 := frozen_of_row _ _ 8 _ _ HW.out.by'
          have f9 := frozen_of_row _ _ 9 _ _ HW.out.by'
          have f10 := frozen_of_row _ _ 10 _ _ HW.out.by'
          obtain ⟨wz, Hwz⟩ : ∃ wz, Hid (wz = (((((((((((wr.setCell ⟨Y, 0, none⟩ (.int .i64 (k : Nat))).setCell ⟨Y, 1, none⟩ (.int .i64 (f : Nat))).setCell ⟨Y, 2, none⟩ (.int .i64 (t : Nat))).setCell ⟨Y, 3, none⟩ (.int .i64 zca)).setCell ⟨Y, 4, none⟩ (.int .i64 zrg)).setCell ⟨Y, 5, none⟩ (.int .i64 zow)).setCell ⟨Y, 6, none⟩ (.string kk)).setCell ⟨Y, 7, none⟩ (.int .i64 zdn)).setCell ⟨Y, 8, none⟩ (.int .i64 zdc)).setCell ⟨Y, 9, none⟩ (.slice ss.p ss.n ss.c)).setCell ⟨Y, 10, none⟩ (.slice sw.p sw.n sw.c))) := ⟨_, rfl⟩
          have HYz : Hid (wz.heap[Y]? = some (.cells #[.int .i64 (k : Nat), .int .i64 (f : Nat), .int .i64 (t : Nat), .int .i64 zca, .int .i64 zrg, .int .i64 zow, .string kk, .int .i64 zdn, .int .i64 zdc, .slice ss.p ss.n ss.c, .slice sw.p sw.n sw.c] 29 (0, 0))) := by
            unfold Hid
            rw [Hwz.out]
            have q0 := heap_setCell_same wr Y 0 _ 29 (.int .i64 (k : Nat)) HW.out.by'
            have q1 := heap_setCell_same _ Y 1 _ 29 (.int .i64 (f : Nat)) q0
            have q2 := heap_setCell_same _ Y 2 _ 29 (.int .i64 (t : Nat)) q1
            have q3 := heap_setCell_same _ Y 3 _ 29 (.int .i64 zca) q2
            have q4 := heap_setCell_same _ Y 4 _ 29 (.int .i64 zrg) q3
            have q5 := heap_setCell_same _ Y 5 _ 29 (.int .i64 zow) q4
            have q6 := heap_setCell_same _ Y 6 _ 29 (.string kk) q5
            have q7 := heap_setCell_same _ Y 7 _ 29 (.int .i64 zdn) q6
            have q8 := heap_setCell_same _ Y 8 _ 29 (.int .i64 zdc) q7
            have q9 := heap_setCell_same _ Y 9 _ 29 (.slice ss.p ss.n ss.c) q8
            have q10 := heap_setCell_same _ Y 10 _ 29 (.slice sw.p sw.n sw.c) q9
            simpa using q10
          have HSz : Hid (Apart [Y] wr wz) := by unfold Hid; rw [Hwz.out]; exact (((((((((((Apart.refl _ _).setCell (.inl (by simp)) _).setCell (.inl (by simp)) _).setCell (.inl (by simp)) _).setCell (.inl (by simp)) _).setCell (.inl (by simp)) _).setCell (.inl (by simp)) _).setCell (.inl (by simp)) _).setCell (.inl (by simp)) _).setCell (.inl (by simp)) _).setCell (.inl (by simp)) _).setCell (.inl (by simp)) _
          have HAz : Hid (Apart [R] w wz) := HW.out.ap.trans' HSz.out (by intro y hy; simp at hy; rw [hy]; exact .inr HW.out.wY)
          have HRz := hid (HW.out.rs.app HSz.out (by intro y hy; simp at hy; rw [hy]; exact ⟨HW.out.bY, _, 29, HW.out.by', by decide⟩))
          go_wp2_with fail
          rw [← Hwz.out]
          refine bodyPost_ret (results_cell_row rfl _ _ Y 29 _ _ _ rfl HYz.out Tryz.underlying29 rfl size29) rfl ?_
          refine ⟨HAz.out, ?_⟩
          obtain ⟨qz, xz, hrz, hz1, hz2⟩ := HRz.out
          have hxz := hz2 y rfl
          subst hxz
          rw [HF.out, HER.out]
          exact ⟨⟨_, rfl, k, f, t, zca, zrg, zow, kk, zdn, zdc, ss, sw, rfl⟩, qz, hrz⟩
end Go.Proofs.YtddffdcjhleejaaGreat.ds
