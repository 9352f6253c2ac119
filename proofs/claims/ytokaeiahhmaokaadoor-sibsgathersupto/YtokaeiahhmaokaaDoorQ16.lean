import Derived.Test.YtokaeiahhmaokaaDoorQ15
import Derived.Test.YtokaeiahhmaokaaDoorQ14
import Derived.Deep.OwnRows
namespace Go.Proofs.YtokaeiahhmaokaaDoor.ds
open Go.ChangeShapes Go.WideShapes Go.ChangeAt Go.RowKit Go.Sort
set_option linter.unusedVariables false
set_option linter.unusedSimpArgs false
/-- blocks ahead of lo and from hi on are as they were -/
structure Fr (lo hi : Nat) (w w' : World) : Prop where
  os : w'.os = w.os
  tape : w'.tape = w.tape
  output : w'.output = w.output
  size : w.heap.size ≤ w'.heap.size
  block : ∀ k, k < w.heap.size → (k < lo ∨ hi ≤ k) → w'.heap[k]? = w.heap[k]?
theorem Fr.refl (lo hi : Nat) (w : World) : Fr lo hi w w := ⟨rfl, rfl, rfl, Nat.le_refl _, fun _ _ _ => rfl⟩
theorem Fr.trans {lo hi : Nat} {a b c : World} (h : Fr lo hi a b) (k : Fr lo hi b c) : Fr lo hi a c :=
  ⟨k.os.trans h.os, k.tape.trans h.tape, k.output.trans h.output, Nat.le_trans h.size k.size, fun i hi hx => (k.block i (Nat.lt_of_lt_of_le hi h.size) hx).trans (h.block i hi hx)⟩
theorem Apart.fr {X : List Nat} {a b : World} (h : Apart X a b) {lo hi : Nat} (hX : ∀ x ∈ X, lo ≤ x ∧ x < hi) : Fr lo hi a b :=
  ⟨h.os, h.tape, h.output, h.size, fun k hk hx => h.block k hk (fun m => by have := hX k m; omega)⟩
theorem Apart.fr0 {a b : World} (h : Apart [] a b) (lo hi : Nat) : Fr lo hi a b := h.fr (by simp)
theorem own_fr {w w' : World} {base : Nat} {e : TypeId} {size : Nat} {v : Value} {n : Nat} {xs : List Value} {lo hi : Nat} (h : w.ownsRow base e size v n xs) (a : Fr lo hi w w') (hx : ∀ k, v.ownBlock = some k → k < lo ∨ hi ≤ k) : w'.ownsRow base e size v n xs := by
  obtain ⟨hl, ⟨hv, hz⟩ | ⟨g, cap, cur, rfl, hb, hr, hrest⟩⟩ := h
  · exact ⟨hl, .inl ⟨hv, hz⟩⟩
  · exact ⟨hl, .inr ⟨g, cap, cur, rfl, hb, (a.block g (lt_of_heap hr) (hx g rfl)).trans hr, hrest⟩⟩
theorem One.fr {w w' : World} {e : E} {v x : Sl} {r : Wr} {lo hi : Nat} (h : One w e v x r) (a : Fr lo hi w w') (hv : ∀ k, v.v.ownBlock = some k → k < lo ∨ hi ≤ k) (hx : ∀ k, x.v.ownBlock = some k → k < lo ∨ hi ≤ k) : One w' e v x r :=
  { h with vo := own_fr h.vo a hv, xo := own_fr h.xo a hx }
/-- what is lent stays where other memory was written -/
theorem Lt.fr {lo hi lo' hi' : Nat} {w w' : World} {LB G c : Nat} {vv xx : Sl} {fs : List E} {vs xs : List Sl} {rs : List Wr} {N : Nat} (h : Lt lo hi w LB G c vv xx fs vs xs rs N) (a : Fr lo' hi' w w') (ho : hi ≤ lo' ∨ hi' ≤ lo) : Lt lo hi w' LB G c vv xx fs vs xs rs N :=
  { h with
    blk := (a.block LB (lt_of_heap h.blk) (by have := h.rLB; omega)).trans h.blk
    list := own_fr h.list a (fun k hk => by simp [Value.ownBlock] at hk; subst hk; have := h.rG; omega)
    vals := own_fr h.vals a (fun k hk => by have := h.rvv k hk; omega)
    ctxs := own_fr h.ctxs a (fun k hk => by have := h.rxx k hk; omega)
    one := fun j hj => (h.one j hj).fr a (fun k hk => by have := h.rv j hj k hk; omega) (fun k hk => by have := h.rx j hj k hk; omega)
    sz := Nat.le_trans h.sz a.size }
theorem Lt.kept0 {lo hi : Nat} {w w' : World} {LB G c : Nat} {vv xx : Sl} {fs : List E} {vs xs : List Sl} {rs : List Wr} {N : Nat} (h : Lt lo hi w LB G c vv xx fs vs xs rs N) (a : Apart [] w w') : Lt lo hi w' LB G c vv xx fs vs xs rs N := h.fr (a.fr0 hi hi) (.inl (Nat.le_refl _))
/-- the list that is handed in -/
theorem Lt.LE {lo hi : Nat} {w : World} {LB G c : Nat} {vv xx : Sl} {fs : List E} {vs xs : List Sl} {rs : List Wr} {N : Nat} (h : Lt lo hi w LB G c vv xx fs vs xs rs N) (hN : N ≤ 2000000) : LE w (some ⟨G, 0, none⟩) N fs := by
  refine ⟨?_, h.fl, hN⟩
  have := Rd.own (p := some ⟨G, 0, none⟩) (n := N + 2) (cap := c) h.list
  rw [flatE_append] at this
  exact this.pre
theorem Lt.cap {lo hi : Nat} {w : World} {LB G c : Nat} {vv xx : Sl} {fs : List E} {vs xs : List Sl} {rs : List Wr} {N : Nat} (h : Lt lo hi w LB G c vv xx fs vs xs rs N) : N + 2 ≤ c := by
  obtain ⟨_, ⟨hv, hz⟩ | ⟨g, cap, cur, hv, _, _, hle, _⟩⟩ := h.list
  · omega
  · simp at hv; omega
/-- half way through back: the first i are marks, their memory is written over -/
structure Bk (lo hi : Nat) (w0 w : World) (LB G c : Nat) (vv xx : Sl) (fs : List E) (vs xs : List Sl) (rs : List Wr) (N i : Nat) : Prop where
  blk : w.heap[LB]? = some (.cells #[.slice (some ⟨G, 0, none⟩) (N + 2) c, vv.v, xx.v] 112 (0, 0))
  list : w.ownsRow 0 28 6 (.slice (some ⟨G, 0, none⟩) (N + 2) c) (N + 2) (flatE (List.replicate i markE ++ (fs.drop i ++ [markE, markE])))
  vals : w.ownsRow 0 25 1 vv.v vv.n (vs.map Sl.v)
  ctxs : w.ownsRow 0 26 1 xx.v xx.n (xs.map Sl.v)
  one : ∀ j, i ≤ j → j < N → One w (gE fs j) (gS vs j) (gS xs j) (gR rs j)
  fr : Fr lo hi w0 w
theorem Bk.start {lo hi : Nat} {w : World} {LB G c : Nat} {vv xx : Sl} {fs : List E} {vs xs : List Sl} {rs : List Wr} {N : Nat} (h : Lt lo hi w LB G c vv xx fs vs xs rs N) {w' : World} (a : Apart [] w w') : Bk lo hi w w' LB G c vv xx fs vs xs rs N 0 := by
  have k := h.kept0 a
  exact ⟨k.blk, by simpa using k.list, k.vals, k.ctxs, fun j _ hj => k.one j hj, a.fr0 _ _⟩
theorem gmap (l : List Sl) (i : Nat) (h : i < l.length) : (l.map Sl.v)[i]? = some (gS l i).v := by
  unfold gS
  simp [List.getD_eq_getElem?_getD, h]
theorem flatE_setW (es : List E) (e : E) : ∀ (k : Nat), k < es.length → flatE (es.set k e) = ((((((flatE es).set (k * 6) (.int .i64 e.n)).set (k * 6 + 1) (.int .i64 e.c)).set (k * 6 + 2) (.string e.k)).set (k * 6 + 3) (.bool e.d)).set (k * 6 + 4) e.v.v).set (k * 6 + 5) e.x.v := by
  induction es with
  | nil => intro k hk; simp at hk
  | cons a l ih =>
    intro k hk
    match k with
    | 0 => simp [flatE, E.cs]
    | k + 1 =>
      have := ih k (by simpa using hk)
      rw [show (k + 1) * 6 = k * 6 + 6 from by omega]
      show E.cs a ++ flatE (l.set k e) = _
      rw [this]; rfl
end Go.Proofs.YtokaeiahhmaokaaDoor.ds
namespace Go.Proofs.YtokaeiahhmaokaaDoor.ds
open Go.ChangeShapes Go.WideShapes Go.ChangeAt Go.RowKit Go.Sort
set_option linter.unusedVariables false
set_option linter.unusedSimpArgs false
theorem set_marks (fs : List E) (i : Nat) (hi : i < fs.length) : (List.replicate i markE ++ (fs.drop i ++ [markE, markE])).set i markE = List.replicate (i + 1) markE ++ (fs.drop (i + 1) ++ [markE, markE]) := by
  rw [List.set_append_right _ _ (by simp), List.length_replicate, Nat.sub_self, List.drop_eq_getElem_cons hi, List.cons_append, List.set_cons_zero, List.replicate_succ']
  simp
def set6 (w : World) (g o : Nat) (e : E) : World := (((((w.setCell ⟨g, o, none⟩ (.int .i64 e.n)).setCell ⟨g, o + 1, none⟩ (.int .i64 e.c)).setCell ⟨g, o + 2, none⟩ (.string e.k)).setCell ⟨g, o + 3, none⟩ (.bool e.d)).setCell ⟨g, o + 4, none⟩ e.v.v).setCell ⟨g, o + 5, none⟩ e.x.v
theorem apart_set6 (w : World) (g o : Nat) (e : E) : Apart [g] w (set6 w g o e) := (((((((Apart.refl _ _).setCell (.inl (by simp)) _).setCell (.inl (by simp)) _).setCell (.inl (by simp)) _).setCell (.inl (by simp)) _).setCell (.inl (by simp)) _).setCell (.inl (by simp)) _)
theorem own_set6 {w : World} {G n c : Nat} {es : List E} (h : w.ownsRow 0 28 6 (.slice (some ⟨G, 0, none⟩) n c) n (flatE es)) (i : Nat) (hi : i < es.length) (e : E) : (set6 w G (i * 6) e).ownsRow 0 28 6 (.slice (some ⟨G, 0, none⟩) n c) n (flatE (es.set i e)) := by
  rw [flatE_setW es e i hi]
  exact ((((((h.stored (i * 6) _).1.stored (i * 6 + 1) _).1.stored (i * 6 + 2) _).1.stored (i * 6 + 3) _).1.stored (i * 6 + 4) _).1.stored (i * 6 + 5) _).1
theorem Bk.step {lo hi : Nat} {w0 w W W1 : World} {LB G c : Nat} {vv xx : Sl} {fs : List E} {vs xs : List Sl} {rs : List Wr} {N i : Nat} (h0 : Lt lo hi w0 LB G c vv xx fs vs xs rs N) (h : Bk lo hi w0 w LB G c vv xx fs vs xs rs N i) (hi' : i < N) (kv kx : Nat) (hkv : (gS vs i).v.ownBlock = some kv) (hkx : (gS xs i).v.ownBlock = some kx) (a : Apart [kv, kx] w W) (a1 : Apart [] W W1) :
    Bk lo hi w0 (set6 W1 G (i * 6) markE) LB G c vv xx fs vs xs rs N (i + 1) := by
  have o := h.one i (Nat.le_refl _) hi'
  obtain ⟨cv, tv⟩ := own_typ o.vo hkv
  obtain ⟨cx, tx⟩ := own_typ o.xo hkx
  obtain ⟨cG, tG⟩ := own_typ h.list (k := G) rfl
  have hne : ∀ k ∈ [kv, kx], ∀ (cur : Array Value) (t : TypeId), t ≠ 5 → t ≠ 80 → w.heap[k]? ≠ some (.cells cur t (0, 0)) := by
    intro k hk cur t h5 h38
    simp at hk
    rcases hk with rfl | rfl
    · exact blk_ne tv cur h5
    · exact blk_ne tx cur h38
  have aw : Apart [kv, kx] w W1 := a.trans (a1.mono (by simp))
  have bLB := (aw.block LB (lt_of_heap h.blk) (fun m => hne LB m _ 112 (by decide) (by decide) h.blk)).trans h.blk
  have bG := (aw.block G (lt_of_heap tG) (fun m => hne G m _ 28 (by decide) (by decide) tG)).trans tG
  have list1 := own_apart h.list aw (fun k hk m => by simp [Value.ownBlock] at hk; subst hk; exact hne _ m _ 28 (by decide) (by decide) tG)
  have vals1 := own_apart h.vals aw (fun k hk m => by obtain ⟨cu, tt⟩ := own_typ h.vals hk; exact hne _ m _ 25 (by decide) (by decide) tt)
  have ctxs1 := own_apart h.ctxs aw (fun k hk m => by obtain ⟨cu, tt⟩ := own_typ h.ctxs hk; exact hne _ m _ 26 (by decide) (by decide) tt)
  have aG := apart_set6 W1 G (i * 6) markE
  have hlen : i < (List.replicate i markE ++ (fs.drop i ++ [markE, markE])).length := by simp
  have one1 : ∀ j, i + 1 ≤ j → j < N → One W1 (gE fs j) (gS vs j) (gS xs j) (gR rs j) := fun j hj hjN => by
    have oj := h.one j (by omega) hjN
    refine oj.kept aw (fun k hk m => ?_) (fun k hk m => ?_)
    · simp at m
      rcases m with rfl | rfl
      · have := h0.incv i j (by omega) hjN _ _ hkv hk; omega
      · obtain ⟨cu, tt⟩ := own_typ oj.vo hk
        rw [tx] at tt; simp at tt
    · simp at m
      rcases m with rfl | rfl
      · obtain ⟨cu, tt⟩ := own_typ oj.xo hk
        rw [tv] at tt; simp at tt
      · have := h0.incx i j (by omega) hjN _ _ hkx hk; omega
  refine ⟨(aG.block LB (lt_of_heap bLB) (fun m => by simp at m; subst m; rw [bLB] at bG; simp at bG)).trans bLB, ?_, ?_, ?_, fun j hj hjN => ?_, ?_⟩
  · have := own_set6 list1 i hlen markE
    rwa [set_marks fs i (by rw [h0.fl]; exact hi')] at this
  · exact own_apart vals1 aG (fun k hk m => by simp at m; subst m; obtain ⟨cu, tt⟩ := own_typ vals1 hk; rw [bG] at tt; simp at tt)
  · exact own_apart ctxs1 aG (fun k hk m => by simp at m; subst m; obtain ⟨cu, tt⟩ := own_typ ctxs1 hk; rw [bG] at tt; simp at tt)
  · exact (one1 j hj hjN).keptT aG (fun k hk cur => by simp at hk; subst hk; exact ⟨blk_ne bG cur (by decide), blk_ne bG cur (by decide)⟩)
  · exact h.fr.trans ((aw.fr (by
      intro x hx
      simp at hx
      rcases hx with rfl | rfl
      · exact h0.rv i hi' _ hkv
      · exact h0.rx i hi' _ hkx)).trans (aG.fr (by simp; exact h0.rG)))
end Go.Proofs.YtokaeiahhmaokaaDoor.ds
namespace Go.Proofs.YtokaeiahhmaokaaDoor.ds
open Go.ChangeShapes Go.WideShapes Go.ChangeAt Go.RowKit Go.Sort
set_option linter.unusedVariables false
set_option linter.unusedSimpArgs false
/-- a list whose i first and i last have changed places -/
def rvA (es : List E) (i k : Nat) : E := if k < i ∨ es.length ≤ k + i then gE es (es.length - 1 - k) else gE es k
def rv (es : List E) (i : Nat) : List E := (List.range es.length).map (rvA es i)
theorem rv_len (es : List E) (i : Nat) : (rv es i).length = es.length := by simp [rv]
theorem rv_get (es : List E) (i k : Nat) (h : k < es.length) : gE (rv es i) k = rvA es i k := by
  simp [gE, rv, List.getD_eq_getElem?_getD, h]
theorem rv_zero (es : List E) : rv es 0 = es := by
  apply List.ext_getElem (by simp [rv])
  intro k h1 h2
  simp only [rv, List.getElem_map, List.getElem_range, rvA]
  rw [if_neg (by omega), gE_eq _ _ h2]
theorem rv_end (es : List E) (i : Nat) (h : es.length ≤ 2 * i + 1) : rv es i = es.reverse := by
  apply List.ext_getElem (by simp [rv])
  intro k h1 h2
  have hk : k < es.length := by simpa [rv] using h1
  simp only [rv, List.getElem_map, List.getElem_range, rvA, List.getElem_reverse]
  by_cases hc : k < i ∨ es.length ≤ k + i
  · rw [if_pos hc, gE_eq _ _ (by omega)]
  · rw [if_neg hc, gE_eq _ _ hk]
    congr 1; omega
theorem rv_step (es : List E) (i : Nat) (h : 2 * i + 1 < es.length) : ((rv es i).set i (gE (rv es i) (es.length - 1 - i))).set (es.length - 1 - i) (gE (rv es i) i) = rv es (i + 1) := by
  apply List.ext_getElem (by simp [rv])
  intro k h1 h2
  have hk : k < es.length := by simpa [rv] using h2
  have g1 := rv_get es i (es.length - 1 - i) (by omega)
  have g2 := rv_get es i i (by omega)
  generalize gE (rv es i) (es.length - 1 - i) = y1 at *
  generalize gE (rv es i) i = y2 at *
  subst g1
  subst g2
  simp only [List.getElem_set, rv, List.getElem_map, List.getElem_range]
  by_cases ha : es.length - 1 - i = k
  · rw [if_pos ha]
    unfold rvA
    rw [if_neg (by omega), if_pos (by omega)]
    congr 1; omega
  · rw [if_neg ha]
    by_cases hb : i = k
    · rw [if_pos hb]
      unfold rvA
      rw [if_neg (by omega), if_pos (by omega), hb]
    · rw [if_neg hb]
      unfold rvA
      by_cases hc : k < i ∨ es.length ≤ k + i
      · rw [if_pos hc, if_pos (by omega)]
      · rw [if_neg hc, if_neg (by omega)]
set_option maxHeartbeats 8000000 in
set_option maxRecDepth 100000 in
theorem reverse_ok {w W : World} {s : Sl} {es : List E} (h : OwnE w W s es) (hn : s.n ≤ 2000000) : Calls Tryd.prog 93 #[s.v] W fun r W' => (∃ v, r = .returned v) ∧ OwnE w W' s es.reverse ∧ Apart s.v.ownBlock.toList W W' := by
  by_cases hz : s.n = 0
  · have he : es = [] := List.length_eq_zero_iff.1 (by rw [h.len]; exact hz)
    subst he
    have HH := hid h
    clear h
    obtain ⟨p, n, c⟩ := s
    simp only at hz
    subst hz
    unfold Sl.v
    go_enter Tryd.func93, Tryd.ntmps93
    go_wp2_with fail
    go_loopw [2, 3] (fun u v wr => u = .int .i64 0 ∧ v = .int .i64 (-1) ∧ wr = W) (fun _ _ _ => 0)
    case atStart => exact ⟨rfl, rfl, rfl⟩
    case round =>
      obtain ⟨rfl, rfl, rfl⟩ := hrel
      go_wp2_with fail
      go_end0
      exact ⟨⟨_, rfl⟩, HH.out, Apart.refl _ _⟩
  obtain ⟨G, c, hs⟩ : ∃ G c, s.v = .slice (some ⟨G, 0, none⟩) s.n c := by
    obtain ⟨_, ⟨hv, hz'⟩ | ⟨g, cap, cur, hv, _⟩⟩ := h.nw.own
    · exact absurd hz' hz
    · exact ⟨g, cap, hv⟩
  rw [hs]
  have HH := hid h
  have hln := h.len
  obtain ⟨n, hnn⟩ : ∃ n, s.n = n := ⟨_, rfl⟩
  rw [hnn] at hn hln ⊢
  have HNN := hid hnn
  have HS := hid hs
  clear h hnn hs
  go_enter Tryd.func93, Tryd.ntmps93
  go_wp2_with fail
  go_loopw [2, 3] (fun u v wr => ∃ i : Nat, u = .int .i64 (i : Nat) ∧ v = .int .i64 ((n : Int) - 1 - (i : Nat)) ∧ i ≤ n ∧ OwnE w wr s (rv es i) ∧ Apart [G] W wr) (fun u _ _ => n - (intOf u).toNat)
  case atStart => exact ⟨0, rfl, by simp, Nat.zero_le _, by rw [rv_zero]; exact HH.out, Apart.refl _ _⟩
  case round =>
    obtain ⟨i, rfl, rfl, hi, ho, ap⟩ := hrel
    have HO := hid ho
    have HA := hid ap
    by_cases hlt : 2 * i + 1 < n
    · obtain ⟨j, hj⟩ : ∃ j, n - 1 - i = j := ⟨_, rfl⟩
      have ej : (n : Int) - 1 - (i : Nat) = ((j : Nat) : Int) := by omega
      rw [ej]
      have hij : ((i : Nat) : Int) < ((j : Nat) : Int) := by omega
      have hjn : ((j : Nat) : Int) < (n : Int) := by omega
      have hin : ((i : Nat) : Int) < (n : Int) := by omega
      have ho := ho.kept (Apart.refl [] wr).drew
      have own1 := ho.nw.own
      rw [HS.out, HNN.out] at own1
      have AD := hid (Apart.refl [G] wr).drew
      have hLE := (ho.LE (by rw [HNN.out]; exact hn))
      rw [HNN.out] at hLE
      obtain ⟨P, o, hp, hP, hc⟩ := hLE.at (by omega)
      have hPG : P = G ∧ o = 0 := by
        have := HS.out
        unfold Sl.v at this
        rw [hp] at this
        simp at this
        exact this.1
      rw [hPG.1, hPG.2] at hc
      rw [hPG.1] at hP
      have ci := hc i (by omega)
      have cj := hc j (by omega)
      rw [Nat.zero_add] at ci cj
      unfold Sl.v at ci cj
      have CI := hid ci
      have CJ := hid cj
      have OW1 := hid own1
      have HST := hid (rv_step es i (by rw [hln]; exact hlt))
      rw [hln, hj] at HST
      generalize gE (rv es i) i = x at *
      generalize gE (rv es i) j = y at *
      have HJ := hid hj
      clear hc ho ap hLE hp hj ej hPG ci cj own1
      go_upto_region 3 with fail
      refine wp_region_held_drew (S := fun _ => True) (by kernel_rfl) trivial (fun hHeld => ?_)
      generalize wr.drew = wd at *
      have own1 := OW1.out
      obtain ⟨i0, i1, i2, i3, i4, i5⟩ := CI.out
      obtain ⟨j0, j1, j2, j3, j4, j5⟩ := CJ.out
      refine wpAnyH_take (i := 0) (oi := ⟨some 14, _, _, _, _, _⟩) (v := (.slice (some ⟨G, 0, none⟩) n c)) rfl (by kernel_rfl) (by kernel_rfl) (by kernel_rfl) (fun _ _ _ h => h) (Or.inl ⟨by rfl, ?_⟩) (by assumption) ?_
      · intro W hSW; go_simp
      simp only [Act.put, List.setIfInBounds_toArray, List.set_cons_zero, List.set_cons_succ]
      refine wpAnyH_take (i := 1) (oi := ⟨some 15, _, _, _, _, _⟩) (v := (.int .i64 (i : Nat))) rfl (by kernel_rfl) (by kernel_rfl) (by kernel_rfl) (fun _ _ _ h => h) (Or.inl ⟨by rfl, ?_⟩) (by assumption) ?_
      · intro W hSW; go_simp
      simp only [Act.put, List.setIfInBounds_toArray, List.set_cons_zero, List.set_cons_succ]
      refine wpAnyH_take (i := 2) (oi := ⟨some 16, _, _, _, _, _⟩) (v := (.slice (some ⟨G, 0, none⟩) n c)) rfl (by kernel_rfl) (by kernel_rfl) (by kernel_rfl) (fun _ _ _ h => h) (Or.inl ⟨by rfl, ?_⟩) (by assumption) ?_
      · intro W hSW; go_simp
      simp only [Act.put, List.setIfInBounds_toArray, List.set_cons_zero, List.set_cons_succ]
      refine wpAnyH_take (i := 3) (oi := ⟨some 17, _, _, _, _, _⟩) (v := (.int .i64 (j : Nat))) rfl (by kernel_rfl) (by kernel_rfl) (by kernel_rfl) (fun _ _ _ h => h) (Or.inl ⟨by rfl, ?_⟩) (by assumption) ?_
      · intro W hSW; go_simp
      simp only [Act.put, List.setIfInBounds_toArray, List.set_cons_zero, List.set_cons_succ]
      refine wpAnyH_take (i := 4) (oi := ⟨some 18, _, _, _, _, _⟩) (v := (.slice (some ⟨G, 0, none⟩) n c)) rfl (by kernel_rfl) (by kernel_rfl) (by kernel_rfl) (fun _ _ _ h => h) (Or.inl ⟨by rfl, ?_⟩) (by assumption) ?_
      · intro W hSW; go_simp
      simp only [Act.put, List.setIfInBounds_toArray, List.set_cons_zero, List.set_cons_succ]
      refine wpAnyH_take (i := 5) (oi := ⟨some 19, _, _, _, _, _⟩) (v := (.int .i64 (j : Nat))) rfl (by kernel_rfl) (by kernel_rfl) (by kernel_rfl) (fun _ _ _ h => h) (Or.inl ⟨by rfl, ?_⟩) (by assumption) ?_
      · intro W hSW; go_simp
      simp only [Act.put, List.setIfInBounds_toArray, List.set_cons_zero, List.set_cons_succ]
      refine wpAnyH_take (i := 6) (oi := ⟨some 20, _, _, _, _, _⟩) (v := (.pointer (some ⟨G, j * 6, none⟩))) rfl (by kernel_rfl) (by kernel_rfl) (by kernel_rfl) (fun _ _ _ h => h) (Or.inl ⟨by rfl, ?_⟩) (by assumption) ?_
      · intro W hSW; go_simp
      simp only [Act.put, List.setIfInBounds_toArray, List.set_cons_zero, List.set_cons_succ]
      refine wpAnyH_take (i := 8) (oi := ⟨some 22, _, _, _, _, _⟩) (v := (.slice (some ⟨G, 0, none⟩) n c)) rfl (by kernel_rfl) (by kernel_rfl) (by kernel_rfl) (fun _ _ _ h => h) (Or.inl ⟨by rfl, ?_⟩) (by assumption) ?_
      · intro W hSW; go_simp
      simp only [Act.put, List.setIfInBounds_toArray, List.set_cons_zero, List.set_cons_succ]
      refine wpAnyH_take (i := 9) (oi := ⟨some 23, _, _, _, _, _⟩) (v := (.int .i64 (i : Nat))) rfl (by kernel_rfl) (by kernel_rfl) (by kernel_rfl) (fun _ _ _ h => h) (Or.inl ⟨by rfl, ?_⟩) (by assumption) ?_
      · intro W hSW; go_simp
      simp only [Act.put, List.setIfInBounds_toArray, List.set_cons_zero, List.set_cons_succ]
      refine wpAnyH_take (i := 10) (oi := ⟨some 24, _, _, _, _, _⟩) (v := (.pointer (some ⟨G, i * 6, none⟩))) rfl (by kernel_rfl) (by kernel_rfl) (by kernel_rfl) (fun _ _ _ h => h) (Or.inl ⟨by rfl, ?_⟩) (by assumption) ?_
      · intro W hSW; go_simp
      simp only [Act.put, List.setIfInBounds_toArray, List.set_cons_zero, List.set_cons_succ]
      refine wpAnyH_ready (rs := [7, 11]) (by kernel_rfl) (by simp) ?_
      refine AllReadyH.cons rfl (fun KK hKK => ?_) (AllReadyH.cons rfl (fun KK hKK => ?_) AllReadyH.nil)
      · go_simp
        refine hKK.out _ _ trivial (fun hHeld => ?_)
        clear hKK KK
        refine wpAnyH_ready (rs := [11]) (by kernel_rfl) (by simp) ?_
        refine AllReadyH.cons rfl (fun KK hKK => ?_) AllReadyH.nil
        go_simp
        refine hKK.out _ _ trivial (fun hHeld => ?_)
        clear hKK KK
        have f0 := own1.frozenAt (i * 6)
        have f1 := own1.frozenAt (i * 6 + 1)
        have f2 := own1.frozenAt (i * 6 + 2)
        have f3 := own1.frozenAt (i * 6 + 3)
        have f4 := own1.frozenAt (i * 6 + 4)
        have f5 := own1.frozenAt (i * 6 + 5)
        refine wpAnyH_take (i := 12) (oi := ⟨some 26, _, _, _, _, _⟩) (v := (.pointer (some ⟨G, i * 6, none⟩))) rfl (by kernel_rfl) (by kernel_rfl) (by kernel_rfl) (fun _ _ _ h => h) (Or.inl ⟨by rfl, ?_⟩) (by assumption) ?_
        · intro W hSW; go_simp
        simp only [Act.put, List.setIfInBounds_toArray, List.set_cons_zero, List.set_cons_succ]
        refine wpAnyH_ready (rs := [13]) (by kernel_rfl) (by simp) ?_
        refine AllReadyH.cons rfl (fun KK hKK => ?_) AllReadyH.nil
        go_simp
        refine hKK.out _ _ trivial (fun hHeld => ?_)
        clear hKK KK f0 f1 f2 f3 f4 f5 i0 i1 i2 i3 i4 i5 j0 j1 j2 j3 j4 j5
        have hle : i < (rv es i).length := by rw [rv_len, hln]; omega
        have own2 := own_set6 own1 i hle y
        have A2 := hid (AD.out.trans (apart_set6 wd G (i * 6) y))
        change wpAnyH _ _ _ _ _ _ _ _ (set6 wd G (i * 6) y)
        generalize set6 wd G (i * 6) y = W2 at *
        clear own1 hle
        have HO2 := hid own2
        obtain ⟨P2, o2, hp2, _, hc2⟩ := (show LE W2 (some ⟨G, 0, none⟩) n ((rv es i).set i y) from ⟨Rd.own own2, by rw [List.length_set, rv_len, hln], hn⟩).at (by omega)
        simp at hp2
        obtain ⟨rfl, rfl⟩ := hp2
        obtain ⟨j0, j1, j2, j3, j4, j5⟩ := hc2 j (by omega)
        rw [Nat.zero_add] at j0 j1 j2 j3 j4 j5
        have f0 := own2.frozenAt (j * 6)
        have f1 := own2.frozenAt (j * 6 + 1)
        have f2 := own2.frozenAt (j * 6 + 2)
        have f3 := own2.frozenAt (j * 6 + 3)
        have f4 := own2.frozenAt (j * 6 + 4)
        have f5 := own2.frozenAt (j * 6 + 5)
        clear hc2 own2
        refine wpAnyH_take (i := 14) (oi := ⟨some 27, _, _, _, _, _⟩) (v := (.pointer (some ⟨G, j * 6, none⟩))) rfl (by kernel_rfl) (by kernel_rfl) (by kernel_rfl) (fun _ _ _ h => h) (Or.inl ⟨by rfl, ?_⟩) (by assumption) ?_
        · intro W hSW; go_simp
        simp only [Act.put, List.setIfInBounds_toArray, List.set_cons_zero, List.set_cons_succ]
        refine wpAnyH_ready (rs := [15]) (by kernel_rfl) (by simp) ?_
        refine AllReadyH.cons rfl (fun KK hKK => ?_) AllReadyH.nil
        go_simp
        refine hKK.out _ _ trivial (fun hHeld => ?_)
        clear hKK KK f0 f1 f2 f3 f4 f5 j0 j1 j2 j3 j4 j5
        have own3 := own_set6 HO2.out j (by rw [List.length_set, rv_len, hln]; omega) x
        have A3 := hid (apart_set6 W2 G (j * 6) x)
        change wpAnyH _ _ _ _ _ _ _ _ (set6 W2 G (j * 6) x)
        generalize set6 W2 G (j * 6) x = W3 at *
        rw [HST.out] at own3
        have HON : Hid (OwnE w W3 s (rv es (i + 1))) := by
          have hb := HO.out.nw
          refine ⟨⟨by rw [HS.out, HNN.out]; exact own3, hb.new, hb.ap.trans' (A2.out.trans A3.out) (fun k hk => ?_)⟩, by rw [rv_len, hln, HNN.out]⟩
          simp at hk
          subst hk
          exact .inr (hb.new _ (by rw [HS.out]; rfl))
        have HA3 := hid (HA.out.trans (A2.out.trans A3.out))
        clear own3
        refine wpAnyH_done (by kernel_rfl) ?_ _
        go_wp2_with fail
        go_roundw
        case rel => exact ⟨i + 1, by go_num, by have := HJ.out; simp; omega, by omega, HON.out, HA3.out⟩
        case measure => simp [intOf]; omega
      · go_simp
        refine hKK.out _ _ trivial (fun hHeld => ?_)
        clear hKK KK
        refine wpAnyH_ready (rs := [7]) (by kernel_rfl) (by simp) ?_
        refine AllReadyH.cons rfl (fun KK hKK => ?_) AllReadyH.nil
        go_simp
        refine hKK.out _ _ trivial (fun hHeld => ?_)
        clear hKK KK
        have f0 := own1.frozenAt (i * 6)
        have f1 := own1.frozenAt (i * 6 + 1)
        have f2 := own1.frozenAt (i * 6 + 2)
        have f3 := own1.frozenAt (i * 6 + 3)
        have f4 := own1.frozenAt (i * 6 + 4)
        have f5 := own1.frozenAt (i * 6 + 5)
        refine wpAnyH_take (i := 12) (oi := ⟨some 26, _, _, _, _, _⟩) (v := (.pointer (some ⟨G, i * 6, none⟩))) rfl (by kernel_rfl) (by kernel_rfl) (by kernel_rfl) (fun _ _ _ h => h) (Or.inl ⟨by rfl, ?_⟩) (by assumption) ?_
        · intro W hSW; go_simp
        simp only [Act.put, List.setIfInBounds_toArray, List.set_cons_zero, List.set_cons_succ]
        refine wpAnyH_ready (rs := [13]) (by kernel_rfl) (by simp) ?_
        refine AllReadyH.cons rfl (fun KK hKK => ?_) AllReadyH.nil
        go_simp
        refine hKK.out _ _ trivial (fun hHeld => ?_)
        clear hKK KK f0 f1 f2 f3 f4 f5 i0 i1 i2 i3 i4 i5 j0 j1 j2 j3 j4 j5
        have hle : i < (rv es i).length := by rw [rv_len, hln]; omega
        have own2 := own_set6 own1 i hle y
        have A2 := hid (AD.out.trans (apart_set6 wd G (i * 6) y))
        change wpAnyH _ _ _ _ _ _ _ _ (set6 wd G (i * 6) y)
        generalize set6 wd G (i * 6) y = W2 at *
        clear own1 hle
        have HO2 := hid own2
        obtain ⟨P2, o2, hp2, _, hc2⟩ := (show LE W2 (some ⟨G, 0, none⟩) n ((rv es i).set i y) from ⟨Rd.own own2, by rw [List.length_set, rv_len, hln], hn⟩).at (by omega)
        simp at hp2
        obtain ⟨rfl, rfl⟩ := hp2
        obtain ⟨j0, j1, j2, j3, j4, j5⟩ := hc2 j (by omega)
        rw [Nat.zero_add] at j0 j1 j2 j3 j4 j5
        have f0 := own2.frozenAt (j * 6)
        have f1 := own2.frozenAt (j * 6 + 1)
        have f2 := own2.frozenAt (j * 6 + 2)
        have f3 := own2.frozenAt (j * 6 + 3)
        have f4 := own2.frozenAt (j * 6 + 4)
        have f5 := own2.frozenAt (j * 6 + 5)
        clear hc2 own2
        refine wpAnyH_take (i := 14) (oi := ⟨some 27, _, _, _, _, _⟩) (v := (.pointer (some ⟨G, j * 6, none⟩))) rfl (by kernel_rfl) (by kernel_rfl) (by kernel_rfl) (fun _ _ _ h => h) (Or.inl ⟨by rfl, ?_⟩) (by assumption) ?_
        · intro W hSW; go_simp
        simp only [Act.put, List.setIfInBounds_toArray, List.set_cons_zero, List.set_cons_succ]
        refine wpAnyH_ready (rs := [15]) (by kernel_rfl) (by simp) ?_
        refine AllReadyH.cons rfl (fun KK hKK => ?_) AllReadyH.nil
        go_simp
        refine hKK.out _ _ trivial (fun hHeld => ?_)
        clear hKK KK f0 f1 f2 f3 f4 f5 j0 j1 j2 j3 j4 j5
        have own3 := own_set6 HO2.out j (by rw [List.length_set, rv_len, hln]; omega) x
        have A3 := hid (apart_set6 W2 G (j * 6) x)
        change wpAnyH _ _ _ _ _ _ _ _ (set6 W2 G (j * 6) x)
        generalize set6 W2 G (j * 6) x = W3 at *
        rw [HST.out] at own3
        have HON : Hid (OwnE w W3 s (rv es (i + 1))) := by
          have hb := HO.out.nw
          refine ⟨⟨by rw [HS.out, HNN.out]; exact own3, hb.new, hb.ap.trans' (A2.out.trans A3.out) (fun k hk => ?_)⟩, by rw [rv_len, hln, HNN.out]⟩
          simp at hk
          subst hk
          exact .inr (hb.new _ (by rw [HS.out]; rfl))
        have HA3 := hid (HA.out.trans (A2.out.trans A3.out))
        clear own3
        refine wpAnyH_done (by kernel_rfl) ?_ _
        go_wp2_with fail
        go_roundw
        case rel => exact ⟨i + 1, by go_num, by have := HJ.out; simp; omega, by omega, HON.out, HA3.out⟩
        case measure => simp [intOf]; omega
    · have HE := hid (rv_end es i (by rw [hln]; omega))
      rw [HE.out] at ho
      have HO2 := hid ho
      have hge : ¬ (((i : Nat) : Int) < (n : Int) - 1 - (i : Nat)) := by omega
      clear ho ap
      go_wp2_with fail
      go_end0
      exact ⟨⟨_, rfl⟩, HO2.out, HA.out⟩
end Go.Proofs.YtokaeiahhmaokaaDoor.ds
namespace Go.Proofs.YtokaeiahhmaokaaDoor.ds
open Go.ChangeShapes Go.WideShapes Go.ChangeAt Go.RowKit Go.Sort
set_option linter.unusedVariables false
set_option linter.unusedSimpArgs false
theorem infoBo : (Tryd.prog.info? 4).map (fun i => (i.zero, i.size, i.bytes)) = some (some (.bool false), 1, 1) := by kernel_rfl
theorem L.keptX {w w' : World} {p : Option Addr} {N : Nat} {xs : List S} {X : List Nat} (h : L w p N xs) (a : Apart X w w') (hX : 0 < N → ∀ P o, p = some ⟨P, o, none⟩ → P ∉ X) : L w' p N xs := by
  by_cases hz : 0 < N
  · exact h.kept a (hX hz)
  · have hz' : N = 0 := by omega
    subst hz'
    have he := List.length_eq_zero_iff.1 h.len
    subst he
    exact ⟨Sp.nil _ _, rfl, h.lim, h.fit⟩
theorem L.lt {w : World} {p : Option Addr} {N : Nat} {xs : List S} (h : L w p N xs) (h0 : 0 < N) (P o : Nat) (e : p = some ⟨P, o, none⟩) : P < w.heap.size := by
  obtain ⟨P', o', e', hP, _⟩ := h.sp (by rw [h.len]; exact h0)
  rw [e] at e'
  simp at e'
  rw [e'.1]; exact hP
/-- what stands in the boxes of covered and known -/
structure U1 (w W : World) (Cb b3 b4 N : Nat) (cs : List Bool) (kn : List S) (X : List Nat) : Prop where
  ap : Apart [] w W
  new : w.heap.size ≤ Cb ∧ w.heap.size ≤ b3 ∧ w.heap.size ≤ b4
  ne : Cb ≠ b3 ∧ Cb ≠ b4 ∧ b3 ≠ b4
  len : cs.length = N
  c3 : W.heap[b3]? = some (.cells #[.slice (some ⟨Cb, 0, none⟩) N N] 121 (0, 0))
  cC : W.heap[Cb]? = some (.cells (cs.map Value.bool).toArray 4 (0, 0))
  k : ∃ q n c, W.heap[b4]? = some (.cells #[.slice q n c] 26 (0, 0)) ∧ L W q n kn ∧ (0 < n → ∀ P o, q = some ⟨P, o, none⟩ → P ∉ Cb :: b3 :: b4 :: X)
theorem U1.apart {w W W' : World} {Cb b3 b4 N : Nat} {cs : List Bool} {kn : List S} {X Y : List Nat} (h : U1 w W Cb b3 b4 N cs kn X) (a : Apart Y W W') (hY : ∀ y ∈ Y, y ∈ X ∧ y ≠ Cb ∧ y ≠ b3 ∧ y ≠ b4 ∧ w.heap.size ≤ y) : U1 w W' Cb b3 b4 N cs kn X := by
  obtain ⟨q, n, c, h4, hl, hq⟩ := h.k
  refine ⟨h.ap.trans' a (fun y hy => .inr (hY y hy).2.2.2.2), h.new, h.ne, h.len, (a.block _ (lt_of_heap h.c3) (fun m => (hY _ m).2.2.1 rfl)).trans h.c3, (a.block _ (lt_of_heap h.cC) (fun m => (hY _ m).2.1 rfl)).trans h.cC, q, n, c, (a.block _ (lt_of_heap h4) (fun m => (hY _ m).2.2.2.1 rfl)).trans h4, hl.keptX a (fun h0 P o e m => hq h0 P o e (by have := (hY P m).1; simp [this])), hq⟩
theorem U1.apart0 {w W W' : World} {Cb b3 b4 N : Nat} {cs : List Bool} {kn : List S} {X : List Nat} (h : U1 w W Cb b3 b4 N cs kn X) (a : Apart [] W W') : U1 w W' Cb b3 b4 N cs kn X := h.apart a (by simp)
theorem U1.exch {w W : World} {Cb b3 b4 N : Nat} {cs : List Bool} {kn : List S} {X X' : List Nat} (h : U1 w W Cb b3 b4 N cs kn X) (hX : ∀ y ∈ X', y ∈ X ∨ W.heap.size ≤ y) : U1 w W Cb b3 b4 N cs kn X' := by
  obtain ⟨q, n, c, h4, hl, hq⟩ := h.k
  refine { h with k := ⟨q, n, c, h4, hl, fun h0 P o e m => ?_⟩ }
  have h1 := hq h0 P o e
  have h2 := hl.lt h0 P o e
  simp at m h1
  rcases m with m | m | m | m
  · exact h1.1 m
  · exact h1.2.1 m
  · exact h1.2.2.1 m
  · rcases hX P m with h3 | h3
    · exact h1.2.2.2 h3
    · omega
theorem U1.setC {w W : World} {Cb b3 b4 N : Nat} {cs : List Bool} {kn : List S} {X : List Nat} (h : U1 w W Cb b3 b4 N cs kn X) (i : Nat) (v : Bool) : U1 w (W.setCell ⟨Cb, i, none⟩ (.bool v)) Cb b3 b4 N (cs.set i v) kn X := by
  have a : Apart [Cb] W (W.setCell ⟨Cb, i, none⟩ (.bool v)) := (Apart.refl _ _).setCell (.inl (by simp)) _
  obtain ⟨q, n, c, h4, hl, hq⟩ := h.k
  refine ⟨h.ap.trans' a (fun y hy => by simp at hy; subst hy; exact .inr h.new.1), h.new, h.ne, by rw [List.length_set]; exact h.len, (a.block _ (lt_of_heap h.c3) (by simp; exact fun e => h.ne.1 e.symm)).trans h.c3, ?_, q, n, c, (a.block _ (lt_of_heap h4) (by simp; exact fun e => h.ne.2.1 e.symm)).trans h4, hl.keptX a (fun h0 P o e m => hq h0 P o e (by simp at m; simp [m])), hq⟩
  have := heap_setCell_same W Cb i _ 4 (.bool v) h.cC
  rw [this]
  congr 2
  rw [List.setIfInBounds_toArray, List.map_set]
theorem U1.setK {w W : World} {Cb b3 b4 N : Nat} {cs : List Bool} {kn kn' : List S} {X : List Nat} (h : U1 w W Cb b3 b4 N cs kn X) {q : Option Addr} {n : Nat} (c : Nat) (hl : L W q n kn') (hq : 0 < n → ∀ P o, q = some ⟨P, o, none⟩ → P ∉ Cb :: b3 :: b4 :: X) : U1 w (W.setCell ⟨b4, 0, none⟩ (.slice q n c)) Cb b3 b4 N cs kn' X := by
  have a : Apart [b4] W (W.setCell ⟨b4, 0, none⟩ (.slice q n c)) := (Apart.refl _ _).setCell (.inl (by simp)) _
  obtain ⟨q0, n0, c0, h4, _, _⟩ := h.k
  refine ⟨h.ap.trans' a (fun y hy => by simp at hy; subst hy; exact .inr h.new.2.2), h.new, h.ne, h.len, (a.block _ (lt_of_heap h.c3) (by simp; exact h.ne.2.2)).trans h.c3, (a.block _ (lt_of_heap h.cC) (by simp; exact h.ne.2.1)).trans h.cC, q, n, c, ?_, hl.keptX a (fun h0 P o e m => hq h0 P o e (by simp at m; simp [m])), hq⟩
  have := heap_setCell_same W b4 0 _ 26 (.slice q n c) h4
  rw [this]; rfl
theorem U1.start (w : World) (N : Nat) : U1 w (((w.alloc (.cells (madeCells #[.bool false] N) 4)).alloc (.cells #[.slice (some ⟨w.heap.size, 0, none⟩) N N] 121)).alloc (.cells #[.slice none 0 0] 26)) w.heap.size (w.heap.size + 1) (w.heap.size + 1 + 1) N (List.replicate N false) [] [] := by
  have hm : madeCells #[Value.bool false] N = ((List.replicate N false).map Value.bool).toArray := by
    apply Array.ext
    · simp [madeCells]
    · intro i h1 h2
      simp [madeCells, Nat.mod_one]
  refine ⟨(((Apart.refl _ _).alloc _).alloc _).alloc _, by omega, by omega, by simp, ?_, ?_, none, 0, 0, ?_, ⟨Sp.nil _ _, rfl, by decide, by simp⟩, fun h => absurd h (by omega)⟩
  · rw [Below.heap_alloc _ _ _ (by simp)]
    have := heap_alloc_new (w.alloc (.cells (madeCells #[.bool false] N) 4)) (.cells #[.slice (some ⟨w.heap.size, 0, none⟩) N N] 121)
    simpa using this
  · rw [Below.heap_alloc _ _ _ (by simp; omega), Below.heap_alloc _ _ _ (by simp), heap_alloc_new, hm]
  · have := heap_alloc_new ((w.alloc (.cells (madeCells #[.bool false] N) 4)).alloc (.cells #[.slice (some ⟨w.heap.size, 0, none⟩) N N] 121)) (.cells #[.slice none 0 0] 26)
    simpa using this
/-- the two slices that union is asked with -/
theorem two_lx {W : World} {q : Option Addr} {n : Nat} (c : Nat) {kn xs : List S} {s : Sl} (h1 : L W q n kn) (h2 : L W s.p s.n xs) : LX (W.alloc (.cells #[.slice q n c, .slice s.p s.n s.c] 26)) (some ⟨W.heap.size, 0, none⟩) 2 [⟨q, n, c⟩, s] [kn, xs] := by
  have a : Apart [] W (W.alloc (.cells #[.slice q n c, .slice s.p s.n s.c] 26)) := (Apart.refl _ _).alloc _
  refine ⟨fun _ => ⟨W.heap.size, 0, rfl, by simp, fun j u hj => ?_⟩, rfl, rfl, fun j hj => ?_⟩
  · rw [cell_of_row _ _ _ _ _ _ (heap_alloc_new W _)]
    match j with
    | 0 => simpa [Sl.v] using hj
    | 1 => simpa [Sl.v] using hj
    | j + 2 => simp at hj
  · match j with
    | 0 => exact h1.kept0 a
    | 1 => exact h2.kept0 a
    | j + 2 => omega
/-- a round of the first loop -/
theorem U1.round {w W0 W1 w6 w9 : World} {Cb b3 b4 N : Nat} {cs : List Bool} {kn xs : List S} {X : List Nat} {q q' : Option Addr} {n c n' c' i : Nat} {s : Sl} {v : Bool} (h : U1 w W0 Cb b3 b4 N cs kn X) (a1 : Apart [] W0 w6)
    (hX : ∀ y ∈ X, y < w6.heap.size) (a9 : Apart [] ((w6.setCell ⟨Cb, i, none⟩ (.bool v)).alloc (.cells #[.slice q n c, .slice s.p s.n s.c] 26)) w9) (hl : L w9 q' n' (unis 64 [kn, xs])) (hk : OkL 64 kn) (hn : NewP ((w6.setCell ⟨Cb, i, none⟩ (.bool v)).alloc (.cells #[.slice q n c, .slice s.p s.n s.c] 26)) q') :
    U1 w (w9.setCell ⟨b4, 0, none⟩ (.slice q' n' c')) Cb b3 b4 N (cs.set i v) (knows kn xs) X := by
  have h6 := h.apart0 a1
  have h7 := h6.setC i v
  have h8 := h7.apart0 (((Apart.refl [] _).alloc (.cells #[.slice q n c, .slice s.p s.n s.c] 26)).trans a9)
  rw [unis_two xs hk] at hl
  refine h8.setK c' hl (fun _ P o e m => ?_)
  have h1 := hn P o e
  have e1 := lt_of_heap h6.c3
  have e2 := lt_of_heap h6.cC
  obtain ⟨q0, n0, c0, h4, _, _⟩ := h6.k
  have e3 := lt_of_heap h4
  simp at h1 m
  rcases m with m | m | m | m
  · omega
  · omega
  · omega
  · have := hX P m; omega
end Go.Proofs.YtokaeiahhmaokaaDoor.ds
