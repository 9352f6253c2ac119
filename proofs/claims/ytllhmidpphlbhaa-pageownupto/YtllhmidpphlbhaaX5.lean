import Derived.Test.YtllhmidpphlbhaaX4
import Derived.Test.YtllhmidpphlbhaaG34
namespace Go.Proofs.Ytllhmidpphlbhaa.ds
open Go.ChangeShapes Go.WideShapes Go.ChangeAt Go.RowKit Go.Sort
set_option linter.unusedVariables false
set_option linter.unusedSimpArgs false
def cfn (c : Nat × List S) : Int × List S := ((c.1 : Int), c.2)
def wfn (B : List Nat) (k : ByteArray) (p : Pw) : Wr := ⟨p.n, p.c, k, p.d, (B.drop p.vb).take p.vn, p.xs⟩
/-- clocks that were read: their sets in new memory -/
def CL (wB wt : World) (kk : List Ck) (zs : List (Int × List S)) : Prop := kk.length = zs.length ∧ ∀ j, j < zs.length → (gK kk j).r = (gC zs j).1 ∧ Nw wB wt 85 3 (gK kk j).s (flat (gC zs j).2)
theorem CL.keep {wB w w' : World} {ts : List Nat} {kk : List Ck} {zs : List (Int × List S)} (h : CL wB w kk zs) (k : TK ts w w') (ap : Apart [] wB w') (ht : 85 ∉ ts) : CL wB w' kk zs := ⟨h.1, fun j hj => ⟨(h.2 j hj).1, k.nw (h.2 j hj).2 ap ht⟩⟩
theorem CL.push {wB w : World} {kk : List Ck} {zs : List (Int × List S)} (h : CL wB w kk zs) (c : Ck) (z : Int × List S) (hc : c.r = z.1) (hn : Nw wB w 85 3 c.s (flat z.2)) : CL wB w (kk ++ [c]) (zs ++ [z]) := by
  refine ⟨by simp [h.1], fun j hj => ?_⟩
  by_cases hjl : j < zs.length
  · have e1 : gC (zs ++ [z]) j = gC zs j := by unfold gC; rw [List.getD_eq_getElem?_getD, List.getD_eq_getElem?_getD, List.getElem?_append_left hjl]
    rw [gK_l (by rw [h.1]; exact hjl), e1]
    exact h.2 j hjl
  · have e0 : j = zs.length := by simp at hj; omega
    subst e0
    have e1 : gC (zs ++ [z]) zs.length = z := by unfold gC; rw [List.getD_eq_getElem?_getD, List.getElem?_append_right (Nat.le_refl _), Nat.sub_self]; rfl
    have e2 : gK (kk ++ [c]) zs.length = c := by rw [← h.1]; exact gK_r
    rw [e1, e2]
    exact ⟨hc, hn⟩
/-- writes that were read -/
def WL (wB wt : World) (ee : List E) (rs : List Wr) : Prop := ee.length = rs.length ∧ ∀ j, j < rs.length → ((gE ee j).n = (gR rs j).n ∧ (gE ee j).c = (gR rs j).c ∧ (gE ee j).k = (gR rs j).k ∧ (gE ee j).d = (gR rs j).d) ∧ Bf wB wt (gE ee j).v (gR rs j).vs ∧ Nw wB wt 85 3 (gE ee j).x (flat (gR rs j).xs)
theorem WL.keep {wB w w' : World} {ts : List Nat} {ee : List E} {rs : List Wr} (h : WL wB w ee rs) (k : TK ts w w') (ap : Apart [] wB w') (ht : 85 ∉ ts) (h5 : 5 ∉ ts) : WL wB w' ee rs := ⟨h.1, fun j hj => ⟨(h.2 j hj).1, ⟨k.nw (h.2 j hj).2.1.nw ap h5, (h.2 j hj).2.1.len⟩, k.nw (h.2 j hj).2.2 ap ht⟩⟩
theorem WL.push {wB w : World} {ee : List E} {rs : List Wr} (h : WL wB w ee rs) (e : E) (r : Wr) (h0 : e.n = r.n ∧ e.c = r.c ∧ e.k = r.k ∧ e.d = r.d) (h1 : Bf wB w e.v r.vs) (h2 : Nw wB w 85 3 e.x (flat r.xs)) : WL wB w (ee ++ [e]) (rs ++ [r]) := by
  refine ⟨by simp [h.1], fun j hj => ?_⟩
  by_cases hjl : j < rs.length
  · have e1 : gR (rs ++ [r]) j = gR rs j := by unfold gR; rw [List.getD_eq_getElem?_getD, List.getD_eq_getElem?_getD, List.getElem?_append_left hjl]
    rw [gE_l (by rw [h.1]; exact hjl), e1]
    exact h.2 j hjl
  · have e0 : j = rs.length := by simp at hj; omega
    subst e0
    have e1 : gR (rs ++ [r]) rs.length = r := by unfold gR; rw [List.getD_eq_getElem?_getD, List.getElem?_append_right (Nat.le_refl _), Nat.sub_self]; rfl
    have e2 : gE (ee ++ [e]) rs.length = e := by rw [← h.1]; exact gE_r
    rw [e1, e2]
    exact ⟨h0, h1, h2⟩
theorem RX.tk {wB w w' : World} {R : Nat} {s0 : Sl} {B : List Nat} {s : Ps} (h : RX wB w R s0 B s) (a : Apart [R] w w') : TK [140] w w' := by
  obtain ⟨q, hb, _⟩ := h.ex
  exact TK.one a hb (by simp)
theorem RX.keepT {wB w w' : World} {R : Nat} {s0 : Sl} {B : List Nat} {s : Ps} {ts : List Nat} (h : RX wB w R s0 B s) (k : TK ts w w') (ap : Apart [] wB w') (ht : 140 ∉ ts) : RX wB w' R s0 B s := by
  obtain ⟨q, hb, h2⟩ := h.ex
  exact { h with ex := ⟨q, k.block hb ht, h2⟩, ap := ap }
/-- a page's row -/
def pgL (k g o : Int) (sk sl : Sl) : Array Value := #[.int .i64 k, .int .i64 g, .int .i64 o, .slice sk.p sk.n sk.c, .slice sl.p sl.n sl.c]
/-- clocks being read -/
structure YC (w wt : World) (R Y F : Nat) (s0 : Sl) (B : List Nat) (k g : Nat) (m : Nat) (S2 : Ps) (i : Nat) (sk : Sl) (kk : List Ck) (lo : Nat) (s' : Ps) (zs : List (Int × List S)) : Prop where
  r : RX w wt R s0 B s'
  y : wt.heap[Y]? = some (.cells (pgL k g 0 sk slz) 119 (0, 0))
  f : wt.heap[F]? = some (.cells (pgL 0 0 0 slz slz) 119 (0, 0)) ∧ F ≠ Y
  l : Nw w wt 61 2 sk (flatK kk)
  kl : kk.length = i
  st : (clocksR B m 0 S2).2 = (clocksR B (m - i) lo s').2
  li : (clocksR B m 0 S2).2.bad = false → (clocksR B m 0 S2).1.map cfn = zs ++ (clocksR B (m - i) lo s').1.map cfn ∧ CL w wt kk zs
  rm : s'.bad = false → s'.at_ + 106 * (m - i) ≤ 2048
  lo16 : lo ≤ 16
/-- writes being read -/
structure YW (w wt : World) (R Y F D : Nat) (s0 : Sl) (B : List Nat) (key : ByteArray) (k : Nat) (m : Nat) (S2 : Ps) (i : Nat) (sl : Sl) (ee : List E) (an ac : Nat) (s' : Ps) (zs : List Wr) : Prop where
  r : RX w wt R s0 B s'
  y : wt.heap[Y]? = some (.cells (pgL k 0 0 slz sl) 119 (0, 0))
  d : wt.heap[D]? = some (.cells #[.int .i64 (an : Nat), .int .i64 (ac : Nat)] 47 (0, 0))
  f : wt.heap[F]? = some (.cells (pgL 0 0 0 slz slz) 119 (0, 0)) ∧ F ≠ Y
  l : Nw w wt 50 6 sl (flatE ee)
  el : ee.length = i
  st : (writesR B m 0 0 S2).2 = (writesR B (m - i) an ac s').2
  li : (writesR B m 0 0 S2).2.bad = false → (writesR B m 0 0 S2).1.map (wfn B key) = zs ++ (writesR B (m - i) an ac s').1.map (wfn B key) ∧ WL w wt ee zs
  rm : s'.bad = false → s'.at_ + 176 * (m - i) ≤ 2048
  an7 : s'.bad = false → an ≤ 7 ∧ ac ≤ 1048576 ∧ (ac = 0 → an = 0)
/-- the clocks and the writes that a page tells -/
def csOf (B : List Nat) : List (Int × List S) := (clocksR B (headR B ⟨0, false⟩).1.m 0 (headR B ⟨0, false⟩).2).1.map cfn
def keyOf (B : List Nat) : ByteArray := strB ((B.drop (headR B ⟨0, false⟩).1.kb).take (headR B ⟨0, false⟩).1.kn)
def rsOf (B : List Nat) : List Wr := (writesR B (headR B ⟨0, false⟩).1.m 0 0 (headR B ⟨0, false⟩).2).1.map (wfn B (keyOf B))
/-- what lies in a page's box, once all is read well -/
structure PC (w wx : World) (B : List Nat) (g o : Int) (sk sl : Sl) : Prop where
  g : g = ((headR B ⟨0, false⟩).1.g : Nat)
  o : o = ((headR B ⟨0, false⟩).1.o : Nat)
  c : (headR B ⟨0, false⟩).1.k = 1 → sl = slz ∧ ∃ kk, Nw w wx 61 2 sk (flatK kk) ∧ CL w wx kk (csOf B)
  ws : (headR B ⟨0, false⟩).1.k ≠ 1 → sk = slz ∧ ∃ ee, Nw w wx 50 6 sl (flatE ee) ∧ WL w wx ee (rsOf B)
/-- the page's box behind the switch -/
structure PG (w wx : World) (R F Y : Nat) (s0 : Sl) (B : List Nat) (st : Ps) : Prop where
  r : RX w wx R s0 B st
  f : wx.heap[F]? = some (.cells (pgL 0 0 0 slz slz) 119 (0, 0)) ∧ F ≠ Y
  y : ∃ (g o : Int) (sk sl : Sl), wx.heap[Y]? = some (.cells (pgL ((bodyR B).1.k : Nat) g o sk sl) 119 (0, 0)) ∧ (st.bad = false → PC w wx B g o sk sl)
theorem PC.keep {w wx wy : World} {B : List Nat} {g o : Int} {sk sl : Sl} {ts : List Nat} (h : PC w wx B g o sk sl) (k : TK ts wx wy) (ap : Apart [] w wy) (ht : 61 ∉ ts ∧ 85 ∉ ts ∧ 50 ∉ ts ∧ 5 ∉ ts) : PC w wy B g o sk sl :=
  ⟨h.g, h.o, fun hk => by obtain ⟨e1, kk, e2, e3⟩ := h.c hk; exact ⟨e1, kk, k.nw e2 ap ht.1, e3.keep k ap ht.2.1⟩, fun hk => by obtain ⟨e1, kk, e2, e3⟩ := h.ws hk; exact ⟨e1, kk, k.nw e2 ap ht.2.2.1, e3.keep k ap ht.2.1 ht.2.2.2⟩⟩
end Go.Proofs.Ytllhmidpphlbhaa.ds
namespace Go.Proofs.Ytllhmidpphlbhaa.ds
open Go.ChangeShapes Go.WideShapes Go.ChangeAt Go.RowKit Go.Sort
set_option linter.unusedVariables false
set_option linter.unusedSimpArgs false

theorem clockR_set (B : List Nat) (lo : Nat) (s : Ps) : (clockR B lo s).2 = (setR B 0 0 (num B 1 lo 15 s).2).2 ∧ (clockR B lo s).1 = ((num B 1 lo 15 s).1, (setR B 0 0 (num B 1 lo 15 s).2).1) := ⟨rfl, rfl⟩
/-- a store into the page's box -/
theorem y_set {w : World} {Y : Nat} {k g o : Int} {sk sl : Sl} (hy : w.heap[Y]? = some (.cells (pgL k g o sk sl) 119 (0, 0))) (i : Nat) (v : Value) : (w.setCell ⟨Y, i, none⟩ v).heap[Y]? = some (.cells ((pgL k g o sk sl).setIfInBounds i v) 119 (0, 0)) ∧ Apart [Y] w (w.setCell ⟨Y, i, none⟩ v) ∧ TK [119] w (w.setCell ⟨Y, i, none⟩ v) := by
  have a : Apart [Y] w (w.setCell ⟨Y, i, none⟩ v) := (Apart.refl [Y] w).setCell (.inl (by simp)) _
  exact ⟨heap_setCell_same w Y i _ 119 v hy, a, TK.one a hy (by simp)⟩
set_option maxHeartbeats 16000000 in
set_option maxRecDepth 100000 in
/-- one clock more -/
theorem YC.next {w wt w2 w3 : World} {R Y F : Nat} {s0 : Sl} {B : List Nat} {k g m : Nat} {S2 : Ps} {i : Nat} {sk : Sl} {kk : List Ck} {lo q : Nat} {zs : List (Int × List S)} (h : YC w wt R Y F s0 B k g m S2 i sk kk lo ⟨q, false⟩ zs) (hi : i < m) (hm : m ≤ 16) (hYw : w.heap.size ≤ Y)
    (h2 : RX w w2 R s0 B (num B 1 lo 15 ⟨q, false⟩).2) (a2 : Apart [R] wt w2) {tx : Sl} (h3 : RX w w3 R s0 B (setR B 0 0 (num B 1 lo 15 ⟨q, false⟩).2).2) (a3 : Apart [R] w2 w3) (hx : (setR B 0 0 (num B 1 lo 15 ⟨q, false⟩).2).2.bad = false → Nw w w3 85 3 tx (flat (setR B 0 0 (num B 1 lo 15 ⟨q, false⟩).2).1)) :
    w3.heap[Y]? = some (.cells (pgL k g 0 sk slz) 119 (0, 0)) ∧ ∃ s' W', (Builtin.append_ #[22, 22] 22 #[.slice sk.p sk.n sk.c, .slice (some ⟨w3.heap.size, 0, none⟩) 1 1]).run Try.prog (w3.alloc (Obj.cells #[.int .i64 ((num B 1 lo 15 ⟨q, false⟩).1 : Nat), .slice tx.p tx.n tx.c] 61)) = .ok (.slice s'.p s'.n s'.c) W' ∧ W'.heap[Y]? = some (.cells (pgL k g 0 sk slz) 119 (0, 0)) ∧ ∃ zs', YC w (W'.setCell ⟨Y, 3, none⟩ (.slice s'.p s'.n s'.c)) R Y F s0 B k g m S2 (i + 1) s' (kk ++ [⟨((num B 1 lo 15 ⟨q, false⟩).1 : Nat), tx⟩]) ((num B 1 lo 15 ⟨q, false⟩).1 + 1) (setR B 0 0 (num B 1 lo 15 ⟨q, false⟩).2).2 zs' := by
  obtain ⟨A, HA⟩ : ∃ A, A = num B 1 lo 15 ⟨q, false⟩ := ⟨_, rfl⟩
  obtain ⟨Xx, HX⟩ : ∃ A, A = setR B 0 0 (num B 1 lo 15 ⟨q, false⟩).2 := ⟨_, rfl⟩
  rw [← HX] at h3 hx ⊢
  rw [← HA] at h2 ⊢
  have t2 := h.r.tk a2
  have t3 := h2.tk a3
  have tt := t2.trans t3
  have y3 := tt.block h.y (by decide)
  have l3 := tt.nw h.l h3.ap (by decide)
  obtain ⟨s', W', hrun, hn, tk4, -⟩ := app_ck l3 ⟨(A.1 : Nat), tx⟩ (by rw [h.kl]; omega)
  have y4 := tk4.block y3 (by decide)
  obtain ⟨y5, a5, tk5⟩ := y_set y4 3 (.slice s'.p s'.n s'.c)
  have ap5 : Apart [] w (W'.setCell ⟨Y, 3, none⟩ (.slice s'.p s'.n s'.c)) := hn.ap.trans' a5 (fun y hy => by simp at hy; exact .inr (by omega))
  have hA15 : A.1 ≤ 15 := by rw [HA]; exact num_le B 1 lo 15 _
  obtain ⟨n, hn1⟩ : ∃ n, m - i = n + 1 := ⟨m - i - 1, by omega⟩
  have hn2 : m - (i + 1) = n := by omega
  have hu : clocksR B (m - i) lo ⟨q, false⟩ = ((A.1, Xx.1) :: (clocksR B n (A.1 + 1) Xx.2).1, (clocksR B n (A.1 + 1) Xx.2).2) := by rw [hn1, HA, HX]; rfl
  have hst := h.st
  have hli := h.li
  rw [hu] at hst hli
  dsimp only at hst hli
  refine ⟨y3, s', W', hrun, y4, zs ++ [cfn (A.1, Xx.1)], ?_⟩
  have hXg : (clocksR B m 0 S2).2.bad = false → Xx.2.bad = false := fun hg => by
    cases hb : Xx.2.bad with
    | false => rfl
    | true =>
      rw [hst, clocksR_bad B _ _ hb] at hg
      rw [hb] at hg
      cases hg
  refine ⟨(h3.keepT tk4 hn.ap (by decide)).keepT tk5 ap5 (by decide), y5, ⟨keepB a5 (tk4.block (tt.block h.f.1 (by decide)) (by decide)) h.f.2, h.f.2⟩, tk5.nw hn ap5 (by decide), by simp [h.kl], by rw [hst, hn2], fun hg => ?_, fun hg => ?_, by omega⟩
  · obtain ⟨e1, e2⟩ := hli hg
    refine ⟨by rw [e1, hn2, List.map_cons, List.append_assoc]; rfl, ?_⟩
    have c3 := e2.keep tt h3.ap (by decide)
    exact ((c3.push ⟨(A.1 : Nat), tx⟩ (cfn (A.1, Xx.1)) rfl (hx (hXg hg))).keep tk4 hn.ap (by decide)).keep tk5 ap5 (by decide)
  · have hr := h.rm rfl
    dsimp only at hr
    have h5 : A.2.bad = false := by
      rw [HX, ← HA] at hg
      exact setR_ok1 hg
    have h6 := num_at B 1 lo 15 ⟨q, false⟩
    rw [← HA] at h6
    dsimp only at h6
    have h7 := setR_at B 0 0 A.2
    rw [HX, ← HA]
    omega
theorem writeR_c1 {B : List Nat} {an ac : Nat} {s : Ps} (h : (writeR B an ac s).2.bad = false) : 1 ≤ (writeR B an ac s).1.c := by
  have h1 : (writeR B an ac s).1.c = (num B 4 (leastC an ac (num B 1 an 7 s).1) 1048576 (num B 1 an 7 s).2).1 := rfl
  have h2 : (setR B (num B 1 an 7 s).1 (num B 4 (leastC an ac (num B 1 an 7 s).1) 1048576 (num B 1 an 7 s).2).1 (textR B 0 (mostV ((num B 1 0 1 (num B 4 (leastC an ac (num B 1 an 7 s).1) 1048576 (num B 1 an 7 s).2).2).1 == 1)) (num B 1 0 1 (num B 4 (leastC an ac (num B 1 an 7 s).1) 1048576 (num B 1 an 7 s).2).2).2).2).2.bad = false := h
  have h3' := setR_ok1 h2
  have h3 : (num B 1 0 (mostV ((num B 1 0 1 (num B 4 (leastC an ac (num B 1 an 7 s).1) 1048576 (num B 1 an 7 s).2).2).1 == 1)) (num B 1 0 1 (num B 4 (leastC an ac (num B 1 an 7 s).1) 1048576 (num B 1 an 7 s).2).2).2).2.bad = false := h3'
  have h4 := num_ok1 (num_ok1 h3)
  have h5 := num_ok B 4 (leastC an ac (num B 1 an 7 s).1) 1048576 (num B 1 an 7 s).2 h4
  rw [h1, h5.2.1]
  have h6 := h5.2.2.1
  unfold leastC at h6
  dsimp only
  split at h6 <;> omega
theorem app_e2 {w W : World} {sl : Sl} {ee : List E} (h : Nw w W 50 6 sl (flatE ee)) (e : E) (hl : ee.length ≤ 2000000) :
    ∃ s' W', (Builtin.append_ #[23, 23] 23 #[.slice sl.p sl.n sl.c, .slice (some ⟨W.heap.size, 0, none⟩) 1 1]).run Try.prog (W.alloc (Obj.cells #[.int .i64 e.n, .int .i64 e.c, .string e.k, .bool e.d, .slice e.v.p e.v.n e.v.c, .slice e.x.p e.x.n e.x.c] 50)) = .ok (.slice s'.p s'.n s'.c) W' ∧ Nw w W' 50 6 s' (flatE (ee ++ [e])) ∧ TK [50] W W' ∧ Apart sl.v.ownBlock.toList W W' := by
  obtain ⟨i0, hif, hz0, hz1, hz2⟩ := info_parts infoE50
  have hlen : sl.n = ee.length := by have := h.own.1; rw [flatE_len] at this; omega
  obtain ⟨s5, w5, hrun, hnw5, hs5, ap5, k5, hk5, -, hk6⟩ := run_appM (s := sl) 23 23 50 i0 _ 6 88 Try.underlying23 hif hz0 hz1 hz2 rfl (by decide) h 1 (E.cs e) (by decide) rfl (fun u hu => by simp [E.cs, Sl.v] at hu; rcases hu with rfl | rfl | rfl | rfl | rfl | rfl <;> rfl) (by unfold maxLen; omega) (by omega)
  exact ⟨s5, w5, hrun, by rw [flatE_app]; simpa [flatE] using hnw5, TK.own h ap5 (by simp), ap5⟩
set_option maxHeartbeats 16000000 in
set_option maxRecDepth 100000 in
/-- one write more -/
theorem YW.next {w wt w2 : World} {R Y F D : Nat} {s0 : Sl} {B : List Nat} {key : ByteArray} {k m : Nat} {S2 : Ps} {i : Nat} {sl : Sl} {ee : List E} {an ac q : Nat} {zs : List Wr} (h : YW w wt R Y F D s0 B key k m S2 i sl ee an ac ⟨q, false⟩ zs) (hi : i < m) (hm : m ≤ 8) (hYw : w.heap.size ≤ Y) (hDw : w.heap.size ≤ D)
    (e : E) (he : e.n = ((writeR B an ac ⟨q, false⟩).1.n : Nat) ∧ e.c = ((writeR B an ac ⟨q, false⟩).1.c : Nat) ∧ e.k = key ∧ e.d = (writeR B an ac ⟨q, false⟩).1.d) (h2 : RX w w2 R s0 B (writeR B an ac ⟨q, false⟩).2) (a2 : Apart [R] wt w2) (hx : (writeR B an ac ⟨q, false⟩).2.bad = false → Bf w w2 e.v ((B.drop (writeR B an ac ⟨q, false⟩).1.vb).take (writeR B an ac ⟨q, false⟩).1.vn) ∧ Nw w w2 85 3 e.x (flat (writeR B an ac ⟨q, false⟩).1.xs)) :
    (w2.alloc (Obj.cells #[.int .i64 e.n, .int .i64 e.c, .string e.k, .bool e.d, .slice e.v.p e.v.n e.v.c, .slice e.x.p e.x.n e.x.c] 50)).heap[Y]? = some (.cells (pgL k 0 0 slz sl) 119 (0, 0)) ∧ ∃ s' W', (Builtin.append_ #[23, 23] 23 #[.slice sl.p sl.n sl.c, .slice (some ⟨(w2.alloc (Obj.cells #[.int .i64 e.n, .int .i64 e.c, .string e.k, .bool e.d, .slice e.v.p e.v.n e.v.c, .slice e.x.p e.x.n e.x.c] 50)).heap.size, 0, none⟩) 1 1]).run Try.prog ((w2.alloc (Obj.cells #[.int .i64 e.n, .int .i64 e.c, .string e.k, .bool e.d, .slice e.v.p e.v.n e.v.c, .slice e.x.p e.x.n e.x.c] 50)).alloc (Obj.cells #[.int .i64 e.n, .int .i64 e.c, .string e.k, .bool e.d, .slice e.v.p e.v.n e.v.c, .slice e.x.p e.x.n e.x.c] 50)) = .ok (.slice s'.p s'.n s'.c) W' ∧ W'.heap[Y]? = some (.cells (pgL k 0 0 slz sl) 119 (0, 0)) ∧ (W'.setCell ⟨Y, 4, none⟩ (.slice s'.p s'.n s'.c)).heap[w2.heap.size]? = some (.cells #[.int .i64 e.n, .int .i64 e.c, .string e.k, .bool e.d, .slice e.v.p e.v.n e.v.c, .slice e.x.p e.x.n e.x.c] 50 (0, 0)) ∧ (W'.setCell ⟨Y, 4, none⟩ (.slice s'.p s'.n s'.c)).heap[D]? = some (.cells #[.int .i64 (an : Nat), .int .i64 (ac : Nat)] 47 (0, 0)) ∧ TK [140, 50, 119, 47] wt (((W'.setCell ⟨Y, 4, none⟩ (.slice s'.p s'.n s'.c)).setCell ⟨D, 0, none⟩ (.int .i64 e.n)).setCell ⟨D, 1, none⟩ (.int .i64 e.c)) ∧ ∃ zs', YW w (((W'.setCell ⟨Y, 4, none⟩ (.slice s'.p s'.n s'.c)).setCell ⟨D, 0, none⟩ (.int .i64 e.n)).setCell ⟨D, 1, none⟩ (.int .i64 e.c)) R Y F D s0 B key k m S2 (i + 1) s' (ee ++ [e]) (writeR B an ac ⟨q, false⟩).1.n (writeR B an ac ⟨q, false⟩).1.c (writeR B an ac ⟨q, false⟩).2 zs' := by
  obtain ⟨A, HA⟩ : ∃ A, A = writeR B an ac ⟨q, false⟩ := ⟨_, rfl⟩
  rw [← HA] at he h2 hx ⊢
  have t2 := h.r.tk a2
  obtain ⟨w3, hw3⟩ : ∃ V, V = w2.alloc (Obj.cells #[.int .i64 e.n, .int .i64 e.c, .string e.k, .bool e.d, .slice e.v.p e.v.n e.v.c, .slice e.x.p e.x.n e.x.c] 50) := ⟨_, rfl⟩
  rw [← hw3]
  have a3 : Apart [] w2 w3 := by rw [hw3]; exact (Apart.refl [] w2).alloc _
  have hX3 : w3.heap[w2.heap.size]? = some (.cells #[.int .i64 e.n, .int .i64 e.c, .string e.k, .bool e.d, .slice e.v.p e.v.n e.v.c, .slice e.x.p e.x.n e.x.c] 50 (0, 0)) := by rw [hw3]; exact heap_alloc_new w2 _
  have tt : TK [140] wt w3 := t2.trans (TK.of0 a3)
  have hap3 : Apart [] w w3 := h2.ap.trans a3
  have y3 := tt.block h.y (by decide)
  have d3 := tt.block h.d (by decide)
  have l3 := tt.nw h.l hap3 (by decide)
  obtain ⟨s', W', hrun, hn, tk4, ap4⟩ := app_e2 l3 e (by rw [h.el]; omega)
  have y4 := tk4.block y3 (by decide)
  have d4 := tk4.block d3 (by decide)
  have hXs : w2.heap.size ∉ sl.v.ownBlock.toList := fun hm => by
    obtain ⟨cur, hc⟩ := own_typ (t2.nw h.l h2.ap (by decide)).own (k := w2.heap.size) (by simpa using hm)
    have := lt_of_heap hc
    omega
  have hX4 := (ap4.block _ (lt_of_heap hX3) hXs).trans hX3
  obtain ⟨y5, a5, tk5⟩ := y_set y4 4 (.slice s'.p s'.n s'.c)
  have ap5 : Apart [] w (W'.setCell ⟨Y, 4, none⟩ (.slice s'.p s'.n s'.c)) := hn.ap.trans' a5 (fun y hy => by simp at hy; exact .inr (by omega))
  have hX5 := tk5.block hX4 (by decide)
  have d5 := tk5.block d4 (by decide)
  have d6 := heap_setCell_same _ D 1 _ 47 (.int .i64 e.c) (heap_setCell_same (W'.setCell ⟨Y, 4, none⟩ (.slice s'.p s'.n s'.c)) D 0 _ 47 (.int .i64 e.n) d5)
  obtain ⟨W6, hW6⟩ : ∃ V, V = ((W'.setCell ⟨Y, 4, none⟩ (.slice s'.p s'.n s'.c)).setCell ⟨D, 0, none⟩ (.int .i64 e.n)).setCell ⟨D, 1, none⟩ (.int .i64 e.c) := ⟨_, rfl⟩
  have a6 : Apart [D] (W'.setCell ⟨Y, 4, none⟩ (.slice s'.p s'.n s'.c)) W6 := by rw [hW6]; exact ((Apart.refl [D] _).setCell (.inl (by simp)) _).setCell (.inl (by simp)) _
  have tk6 : TK [47] (W'.setCell ⟨Y, 4, none⟩ (.slice s'.p s'.n s'.c)) W6 := TK.one a6 d5 (by simp)
  have ap6 : Apart [] w W6 := ap5.trans' a6 (fun y hy => by simp at hy; exact .inr (by omega))
  rw [← hW6] at d6
  obtain ⟨n, hn1⟩ : ∃ n, m - i = n + 1 := ⟨m - i - 1, by omega⟩
  have hn2 : m - (i + 1) = n := by omega
  have hu : writesR B (m - i) an ac ⟨q, false⟩ = (A.1 :: (writesR B n A.1.n A.1.c A.2).1, (writesR B n A.1.n A.1.c A.2).2) := by rw [hn1, HA]; rfl
  have hst := h.st
  have hli := h.li
  rw [hu] at hst hli
  dsimp only at hst hli
  have hXg : (writesR B m 0 0 S2).2.bad = false → A.2.bad = false := fun hg => by
    cases hb : A.2.bad with
    | false => rfl
    | true =>
      rw [hst, writesR_bad B _ _ _ hb] at hg
      rw [hb] at hg
      cases hg
  have hat := writeR_at B an ac ⟨q, false⟩
  rw [← HA] at hat
  refine ⟨y3, s', W', hrun, y4, hX5, d5, ?_, zs ++ [wfn B key A.1], ?_⟩
  · rw [← hW6]
    exact (tt.mono (by simp)).trans ((tk4.mono (by simp)).trans ((tk5.mono (by simp)).trans (tk6.mono (by simp))))
  rw [← hW6]
  refine ⟨(((h2.kept0 a3).keepT tk4 hn.ap (by decide)).keepT tk5 ap5 (by decide)).keepT tk6 ap6 (by decide), tk6.block y5 (by decide), ?_, ⟨tk6.block (keepB a5 (tk4.block (tt.block h.f.1 (by decide)) (by decide)) h.f.2) (by decide), h.f.2⟩, tk6.nw (tk5.nw hn ap5 (by decide)) ap6 (by decide), by simp [h.el], by rw [hst, hn2], fun hg => ?_, fun hg => ?_, fun hg => ⟨hat.2.2.1, hat.2.2.2.1, fun h0 => ?_⟩⟩
  · rw [d6, ← he.1, ← he.2.1]; rfl
  · obtain ⟨e1, e2⟩ := hli hg
    refine ⟨by rw [e1, hn2, List.map_cons, List.append_assoc]; rfl, ?_⟩
    have c3 := e2.keep tt hap3 (by decide) (by decide)
    obtain ⟨b1, b2⟩ := hx (hXg hg)
    exact (((c3.push e (wfn B key A.1) ⟨he.1, he.2.1, he.2.2.1, he.2.2.2⟩ (b1.kept a3) (b2.kept a3)).keep tk4 hn.ap (by decide) (by decide)).keep tk5 ap5 (by decide) (by decide)).keep tk6 ap6 (by decide) (by decide)
  · have hr := h.rm rfl
    dsimp only at hr hat
    omega
  · have hc := writeR_c1 (by rw [← HA]; exact hg)
    rw [← HA] at hc
    omega
set_option maxHeartbeats 16000000 in
set_option maxRecDepth 100000 in
/-- the write of a hint -/
theorem YH {w wt w2 : World} {R Y F : Nat} {s0 : Sl} {B : List Nat} {key : ByteArray} {k o : Int} {s' : Ps} (r : RX w wt R s0 B s') (y : wt.heap[Y]? = some (.cells (pgL k 0 o slz slz) 119 (0, 0))) (f : wt.heap[F]? = some (.cells (pgL 0 0 0 slz slz) 119 (0, 0)) ∧ F ≠ Y) (hYw : w.heap.size ≤ Y)
    (e : E) (he : e.n = ((writeR B 0 0 s').1.n : Nat) ∧ e.c = ((writeR B 0 0 s').1.c : Nat) ∧ e.k = key ∧ e.d = (writeR B 0 0 s').1.d) (h2 : RX w w2 R s0 B (writeR B 0 0 s').2) (a2 : Apart [R] wt w2) (hx : (writeR B 0 0 s').2.bad = false → Bf w w2 e.v ((B.drop (writeR B 0 0 s').1.vb).take (writeR B 0 0 s').1.vn) ∧ Nw w w2 85 3 e.x (flat (writeR B 0 0 s').1.xs)) :
    (w2.alloc (Obj.cells #[.int .i64 e.n, .int .i64 e.c, .string e.k, .bool e.d, .slice e.v.p e.v.n e.v.c, .slice e.x.p e.x.n e.x.c] 50)).heap[Y]? = some (.cells (pgL k 0 o slz slz) 119 (0, 0)) ∧ ∃ t W', (Builtin.append_ #[23, 23] 23 #[.slice none 0 0, .slice (some ⟨(w2.alloc (Obj.cells #[.int .i64 e.n, .int .i64 e.c, .string e.k, .bool e.d, .slice e.v.p e.v.n e.v.c, .slice e.x.p e.x.n e.x.c] 50)).heap.size, 0, none⟩) 1 1]).run Try.prog ((w2.alloc (Obj.cells #[.int .i64 e.n, .int .i64 e.c, .string e.k, .bool e.d, .slice e.v.p e.v.n e.v.c, .slice e.x.p e.x.n e.x.c] 50)).alloc (Obj.cells #[.int .i64 e.n, .int .i64 e.c, .string e.k, .bool e.d, .slice e.v.p e.v.n e.v.c, .slice e.x.p e.x.n e.x.c] 50)) = .ok (.slice t.p t.n t.c) W' ∧ W'.heap[Y]? = some (.cells (pgL k 0 o slz slz) 119 (0, 0)) ∧ RX w (W'.setCell ⟨Y, 4, none⟩ (.slice t.p t.n t.c)) R s0 B (writeR B 0 0 s').2 ∧ (W'.setCell ⟨Y, 4, none⟩ (.slice t.p t.n t.c)).heap[Y]? = some (.cells (pgL k 0 o slz t) 119 (0, 0)) ∧ (W'.setCell ⟨Y, 4, none⟩ (.slice t.p t.n t.c)).heap[F]? = some (.cells (pgL 0 0 0 slz slz) 119 (0, 0)) ∧ ((writeR B 0 0 s').2.bad = false → Nw w (W'.setCell ⟨Y, 4, none⟩ (.slice t.p t.n t.c)) 50 6 t (flatE [e]) ∧ WL w (W'.setCell ⟨Y, 4, none⟩ (.slice t.p t.n t.c)) [e] [wfn B key (writeR B 0 0 s').1]) := by
  obtain ⟨A, HA⟩ : ∃ A, A = writeR B 0 0 s' := ⟨_, rfl⟩
  rw [← HA] at he h2 hx ⊢
  have t2 := r.tk a2
  obtain ⟨w3, hw3⟩ : ∃ V, V = w2.alloc (Obj.cells #[.int .i64 e.n, .int .i64 e.c, .string e.k, .bool e.d, .slice e.v.p e.v.n e.v.c, .slice e.x.p e.x.n e.x.c] 50) := ⟨_, rfl⟩
  rw [← hw3]
  have a3 : Apart [] w2 w3 := by rw [hw3]; exact (Apart.refl [] w2).alloc _
  have tt : TK [140] wt w3 := t2.trans (TK.of0 a3)
  have hap3 : Apart [] w w3 := h2.ap.trans a3
  have y3 := tt.block y (by decide)
  have l3 : Nw w w3 50 6 slz (flatE []) := ⟨World.ownsRow_nil _ _ _ _, by simp [Sl.v, slz, Value.ownBlock], hap3⟩
  obtain ⟨t, W', hrun, hn, tk4, -⟩ := app_e2 l3 e (by simp)
  have y4 := tk4.block y3 (by decide)
  obtain ⟨y5, a5, tk5⟩ := y_set y4 4 (.slice t.p t.n t.c)
  have ap5 : Apart [] w (W'.setCell ⟨Y, 4, none⟩ (.slice t.p t.n t.c)) := hn.ap.trans' a5 (fun y hy => by simp at hy; exact .inr (by omega))
  refine ⟨y3, t, W', hrun, y4, ((h2.kept0 a3).keepT tk4 hn.ap (by decide)).keepT tk5 ap5 (by decide), y5, keepB a5 (tk4.block (tt.block f.1 (by decide)) (by decide)) f.2, fun hg => ?_⟩
  obtain ⟨b1, b2⟩ := hx hg
  have c0 : WL w w3 [] [] := ⟨rfl, fun j hj => by simp at hj⟩
  exact ⟨tk5.nw hn ap5 (by decide), (((c0.push e (wfn B key A.1) ⟨he.1, he.2.1, he.2.2.1, he.2.2.2⟩ (b1.kept a3) (b2.kept a3)).keep tk4 hn.ap (by decide) (by decide)).keep tk5 ap5 (by decide) (by decide))⟩
end Go.Proofs.Ytllhmidpphlbhaa.ds
