import Derived.Test.YtllhmidpphlbhaaG25
namespace Go.Proofs.Ytllhmidpphlbhaa.ds
open Go.ChangeShapes Go.WideShapes Go.ChangeAt Go.RowKit Go.Sort
set_option linter.unusedVariables false
set_option linter.unusedSimpArgs false
theorem TK.new {ts : List Nat} {W W1 W2 : World} {A : Nat} (h : TK ts W W1) (a : Apart [A] W1 W2) (hA : W.heap.size ≤ A) : TK ts W W2 := by
  obtain ⟨Z, b, hz⟩ := h
  exact ⟨Z, b.trans' a (fun y hy => by simp at hy; exact .inr (by omega)), hz⟩
theorem set6 {W : World} {B : Nat} {t : TypeId} {a b c d e f : Value} (a' b' c' d' e' f' : Value) (h : W.heap[B]? = some (.cells #[a, b, c, d, e, f] t (0, 0))) : ((((((W.setCell ⟨B, 0, none⟩ a').setCell ⟨B, 1, none⟩ b').setCell ⟨B, 2, none⟩ c').setCell ⟨B, 3, none⟩ d').setCell ⟨B, 4, none⟩ e').setCell ⟨B, 5, none⟩ f').heap[B]? = some (.cells #[a', b', c', d', e', f'] t (0, 0)) ∧ Apart [B] W ((((((W.setCell ⟨B, 0, none⟩ a').setCell ⟨B, 1, none⟩ b').setCell ⟨B, 2, none⟩ c').setCell ⟨B, 3, none⟩ d').setCell ⟨B, 4, none⟩ e').setCell ⟨B, 5, none⟩ f') := by
  have h0 := heap_setCell_same W B 0 _ t a' h
  have h1 := heap_setCell_same _ B 1 _ t b' h0
  have h2 := heap_setCell_same _ B 2 _ t c' h1
  have h3 := heap_setCell_same _ B 3 _ t d' h2
  have h4 := heap_setCell_same _ B 4 _ t e' h3
  have h5 := heap_setCell_same _ B 5 _ t f' h4
  exact ⟨by simpa using h5, (((((((Apart.refl [B] W).setCell (.inl (by simp)) _).setCell (.inl (by simp)) _).setCell (.inl (by simp)) _).setCell (.inl (by simp)) _).setCell (.inl (by simp)) _).setCell (.inl (by simp)) _)⟩
/-- a write is lent -/
structure LwP (w W : World) (X : Nat) (sv sx : Sl) (vl xl : List Sl) (vb : List (List Nat)) (xb : List (List S)) (e : E) (r : Wr) (q : Ending) (W' : World) : Prop where
  ex : ∃ (sv' sx' tv tx : Sl), q = .returned (.agg #[.int .i64 e.n, .int .i64 e.c, .string e.k, .bool e.d, .slice tv.p r.vs.length tv.c, .slice tx.p r.xs.length tx.c]) ∧ LD w W' X 0 0 sv' sx' (vl ++ [tv]) (xl ++ [tx]) (vb ++ [r.vs]) (xb ++ [r.xs]) ∧ TK [28, 48, 88] W W'
set_option maxHeartbeats 8000000 in
set_option maxRecDepth 100000 in
theorem lwrite_ok {w W : World} {X : Nat} {sv sx : Sl} {vl xl : List Sl} {vb : List (List Nat)} {xb : List (List S)} (h : LD w W X 0 0 sv sx vl xl vb xb) (e : E) (r : Wr) (hr : Reads w e r) (hl : vl.length ≤ 2000000) (hl' : xl.length ≤ 2000000) : Calls Try.prog 41 #[.pointer (some ⟨X, 0, none⟩), .agg #[.int .i64 e.n, .int .i64 e.c, .string e.k, .bool e.d, .slice e.v.p e.v.n e.v.c, .slice e.x.p e.x.n e.x.c]] W fun q W' => LwP w W X sv sx vl xl vb xb e r q W' := by
  obtain ⟨A, HXA⟩ : ∃ A, Hid (A = W.heap.size) := ⟨_, rfl⟩
  obtain ⟨W0, hW0⟩ : ∃ V, V = W.alloc (.cells #[.int .i64 e.n, .int .i64 e.c, .string e.k, .bool e.d, .slice e.v.p e.v.n e.v.c, .slice e.x.p e.x.n e.x.c] 50) := ⟨_, rfl⟩
  obtain ⟨W1, hW1⟩ : ∃ V, V = W0.alloc (.cells #[.int .i64 0, .int .i64 0, .string ⟨#[]⟩, .bool false, .slice none 0 0, .slice none 0 0] 50) := ⟨_, rfl⟩
  have a01 : Apart [] W0 W1 := by rw [hW1]; exact (Apart.refl [] W0).alloc _
  have a1 : Apart [] W W1 := by rw [hW1, hW0]; exact ((Apart.refl [] W).alloc _).alloc _
  have hA0 : W0.heap[A]? = some (.cells #[.int .i64 e.n, .int .i64 e.c, .string e.k, .bool e.d, .slice e.v.p e.v.n e.v.c, .slice e.x.p e.x.n e.x.c] 50 (0, 0)) := by rw [hW0, HXA.out]; exact heap_alloc_new W _
  have hA1 : W1.heap[A]? = some (.cells #[.int .i64 e.n, .int .i64 e.c, .string e.k, .bool e.d, .slice e.v.p e.v.n e.v.c, .slice e.x.p e.x.n e.x.c] 50 (0, 0)) := keep0 a01 hA0
  have hB1 : W1.heap[A + 1]? = some (.cells #[.int .i64 0, .int .i64 0, .string ⟨#[]⟩, .bool false, .slice none 0 0, .slice none 0 0] 50 (0, 0)) := by
    have := heap_alloc_new W0 (.cells #[.int .i64 0, .int .i64 0, .string ⟨#[]⟩, .bool false, .slice none 0 0, .slice none 0 0] 50)
    rw [← hW1] at this
    have e0 : W0.heap.size = A + 1 := by rw [hW0, HXA.out]; exact Array.size_push _
    rwa [e0] at this
  have h1 := h.kept0 a1
  have hr1 := hr.kept0 h1.ap
  obtain ⟨s1, W2, hrun1, hn1, -⟩ := appB W1 e.v r.vs 28 hr1.v hr1.vn hr1.vl hr1.vo
  have HR1 : Hid ((Builtin.append_ #[28, 28] 28 #[.slice none 0 0, .slice e.v.p e.v.n e.v.c]).run Try.prog W1 = .ok (.slice s1.p s1.n s1.c) W2) := hrun1
  obtain ⟨s2, W3, hrun2, hn2⟩ := app_mark8 hn1 (by rw [hr1.vn]; exact hr1.vl)
  have HR2 := hid hrun2
  obtain ⟨e1, e2, e3, e4, e5⟩ := hn2.bytes
  obtain ⟨s3, W4, hrun3, hX4, hL5, htk5⟩ := h1.addV hn2.ap s2 r.vs hn2 e5 hl
  have HR3 := hid hrun3
  have hX3 := keep0 hn2.ap h1.blk
  have zX : W3.cell? ⟨X, 0, none⟩ = some (.slice sv.p sv.n sv.c) := by rw [cell_of_row _ _ _ _ _ _ hX3]; rfl
  have yX : W4.cell? ⟨X, 0, none⟩ = some (.slice sv.p sv.n sv.c) := by rw [cell_of_row _ _ _ _ _ _ hX4]; rfl
  have fX := frozen_of_row _ _ 0 _ _ hX4
  obtain ⟨W5, hW5⟩ : ∃ V, V = W4.setCell ⟨X, 0, none⟩ (.slice s3.p s3.n s3.c) := ⟨_, rfl⟩
  rw [← hW5] at hL5 htk5
  have hA5 := htk5.block hA1 (by decide)
  have hB5 := htk5.block hB1 (by decide)
  have hAw : w.heap.size ≤ A := by rw [HXA.out]; exact h.ap.size
  obtain ⟨W6, hW6⟩ : ∃ V, V = W5.setCell ⟨A, 4, none⟩ (.slice s2.p e.v.n s2.c) := ⟨_, rfl⟩
  have a6 : Apart [A] W5 W6 := by rw [hW6]; exact (Apart.refl [A] W5).setCell (.inl (by simp)) _
  have hA6 : W6.heap[A]? = some (.cells #[.int .i64 e.n, .int .i64 e.c, .string e.k, .bool e.d, .slice s2.p e.v.n s2.c, .slice e.x.p e.x.n e.x.c] 50 (0, 0)) := by
    have := heap_setCell_same W5 A 4 _ 50 (.slice s2.p e.v.n s2.c) hA5
    rw [hW6]
    simpa using this
  have hB6 := keepB a6 hB5 (by omega)
  have hL6 := hL5.keep (TK.one (ts := [50]) a6 hA5 (by simp)) (hL5.ap.trans' a6 (fun y hy => by simp at hy; exact .inr (by omega))) (by decide)
  have htk6 : TK [28, 48, 88] W W6 := ((TK.of0 a1).trans (htk5.mono (by simp))).new a6 (by rw [HXA.out]; exact Nat.le_refl _)
  have hr6 := hr.kept0 hL6.ap
  have hcall := lset_ok hL6 e.x r.xs hr6.x hr6.xl hr6.xo hl'
  have HC := hid hcall
  have HL6 := hid hL6
  have HT6 := hid htk6
  obtain ⟨z4, -⟩ : W1.cell? ⟨A, 4, none⟩ = some (.slice e.v.p e.v.n e.v.c) ∧ True := ⟨by rw [cell_of_row _ _ _ _ _ _ hA1]; rfl, trivial⟩
  have z45 : W5.cell? ⟨A, 4, none⟩ = some (.slice e.v.p e.v.n e.v.c) := by rw [cell_of_row _ _ _ _ _ _ hA5]; rfl
  have f45 := frozen_of_row _ _ 4 _ _ hA5
  have z56 : W6.cell? ⟨A, 5, none⟩ = some (.slice e.x.p e.x.n e.x.c) := by rw [cell_of_row _ _ _ _ _ _ hA6]; rfl
  have HA6 := hid hA6
  have HB6 := hid hB6
  have HAW := hid hAw
  have HVN := hid hr.vn
  have hcap : (e.v.n : Int) ≤ (s2.c : Int) := by rw [← hr.vn]; omega
  have hcap' : e.v.n ≤ s2.c := by rw [← hr.vn]; omega
  have hmx : s2.c ≤ maxLen := by
    obtain ⟨_, _, _, _, _, _, _, _, _, hm⟩ := hn2.blk (by omega)
    exact hm
  obtain ⟨g, hg⟩ : ∃ g, s2.p = some ⟨g, 0, none⟩ := by
    obtain ⟨g, cur, hp, _⟩ := hn2.blk (by omega)
    exact ⟨g, hp⟩
  unfold maxLen at hmx
  obtain ⟨p2, n2, c2⟩ := s2
  simp only at HR2 HR3 hg hcap hcap' hmx HL6 HC hW6 HA6 hA6 e5
  subst hg
  clear hrun1 hrun2 hrun3 hn1 hn2 e1 e2 e3 e4 e5 hL5 htk5 hL6 htk6 hr6 hcall hX4 hX3 h1 hr1 hA0 hA1 hA5 hA6 hB1 hB5 hB6 a01 a1 a6 hr h hAw
  go_enter Try.func41, Try.ntmps41
  go_upto_region 1 with fail
  rw [← hW0, ← HXA.out, ← hW1]
  clear hW0 hW1
  go_upto_region 4 with (at_builtin; first | refine wpList_app2 rfl (.const (.slice none 0 0)) (.tmp 7) 28 28 rfl _ _ rfl rfl _ _ HR1.out ?_ | refine wpList_app2 rfl (.tmp 9) (.tmp 10) 28 28 rfl _ _ rfl rfl _ _ HR2.out ?_ | refine wpList_app2 rfl (.tmp 16) (.tmp 18) 69 69 rfl _ _ rfl rfl _ _ HR3.out ?_)
  rw [← hW5]
  clear hW5 HR1 HR2 HR3 zX yX fX z4
  go_upto_region 5 with fail
  rw [← hW6]
  clear hW6 z45 f45
  go_wp2_with fail
  refine HC.out.mono ?_
  rintro q W7 ⟨sx', t, rfl, hL7, htk7⟩
  clear HC z56
  have hA7 := htk7.block HA6.out (by decide)
  have hB7 := htk7.block HB6.out (by decide)
  have z7 : W7.cell? ⟨A, 5, none⟩ = some (.slice e.x.p e.x.n e.x.c) := by rw [cell_of_row _ _ _ _ _ _ hA7]; rfl
  have f7 := frozen_of_row _ _ 5 _ _ hA7
  obtain ⟨W8, hW8⟩ : ∃ V, V = W7.setCell ⟨A, 5, none⟩ (.slice t.p r.xs.length t.c) := ⟨_, rfl⟩
  have a8 : Apart [A] W7 W8 := by rw [hW8]; exact (Apart.refl [A] W7).setCell (.inl (by simp)) _
  have hA8 : W8.heap[A]? = some (.cells #[.int .i64 e.n, .int .i64 e.c, .string e.k, .bool e.d, .slice (some ⟨g, 0, none⟩) e.v.n c2, .slice t.p r.xs.length t.c] 50 (0, 0)) := by
    have := heap_setCell_same W7 A 5 _ 50 (.slice t.p r.xs.length t.c) hA7
    rw [hW8]
    simpa using this
  have hB8 := keepB a8 hB7 (by omega)
  have HL8 := hid (hL7.keep (TK.one (ts := [50]) a8 hA7 (by simp)) (hL7.ap.trans' a8 (fun y hy => by simp at hy; exact .inr (by have := HAW.out; omega))) (by decide))
  have HT8 := hid ((HT6.out.trans (htk7.mono (by simp))).new a8 (by rw [HXA.out]; exact Nat.le_refl _))
  clear hL7 htk7 hA7 hB7 HL6 HT6 HA6 HB6
  try dsimp only
  go_upto_region 6 with fail
  rw [← hW8]
  clear hW8 z7 f7
  obtain ⟨c0, c1, c2', c3, c4, c5⟩ := rowv6 hA8
  obtain ⟨b0, b1, b2, b3, b4, b5⟩ := rowv6 hB8
  have g0 := frozen_of_row _ _ 0 _ _ hB8
  have g1 := frozen_of_row _ _ 1 _ _ hB8
  have g2 := frozen_of_row _ _ 2 _ _ hB8
  have g3 := frozen_of_row _ _ 3 _ _ hB8
  have g4 := frozen_of_row _ _ 4 _ _ hB8
  have g5 := frozen_of_row _ _ 5 _ _ hB8
  obtain ⟨hB9, a9⟩ := set6 (.int .i64 e.n) (.int .i64 e.c) (.string e.k) (.bool e.d) (.slice (some ⟨g, 0, none⟩) e.v.n c2) (.slice t.p r.xs.length t.c) hB8
  have HL9 := hid (HL8.out.keep (TK.one (ts := [50]) a9 hB8 (by simp)) (HL8.out.ap.trans' a9 (fun y hy => by simp at hy; exact .inr (by have := HAW.out; omega))) (by decide))
  have HT9 := hid (HT8.out.new a9 (by rw [HXA.out]; omega))
  have HB9 := hid hB9
  clear hB9 a9 hA8 hB8 HL8 HT8
  go_wp2_with fail
  obtain ⟨d0, d1, d2, d3, d4, d5⟩ := rowv6 HB9.out
  have HP : Hid (LwP w W X sv sx vl xl vb xb e r (.returned (.agg #[.int .i64 e.n, .int .i64 e.c, .string e.k, .bool e.d, .slice (some ⟨g, 0, none⟩) e.v.n c2, .slice t.p r.xs.length t.c])) _) := ⟨s3, sx', ⟨some ⟨g, 0, none⟩, n2, c2⟩, t, by rw [HVN.out], HL9.out, HT9.out⟩
  refine bodyPost_ret (v := .agg #[.int .i64 e.n, .int .i64 e.c, .string e.k, .bool e.d, .slice (some ⟨g, 0, none⟩) e.v.n c2, .slice t.p r.xs.length t.c]) ?_ rfl HP.out
  simp [results, Try.results41, go_sem, d0, d1, d2, d3, d4, d5]
end Go.Proofs.Ytllhmidpphlbhaa.ds
namespace Go.Proofs.Ytllhmidpphlbhaa.ds
open Go.ChangeShapes Go.WideShapes Go.ChangeAt Go.RowKit Go.Sort
set_option linter.unusedVariables false
set_option linter.unusedSimpArgs false
/-- all but some blocks from lo up to hi stay -/
def Fr (lo hi : Nat) (W W' : World) : Prop := ∃ Z, Apart Z W W' ∧ ∀ k ∈ Z, lo ≤ k ∧ k < hi
theorem Fr.refl (lo hi : Nat) (W : World) : Fr lo hi W W := ⟨[], Apart.refl _ _, by simp⟩
theorem Fr.trans {lo hi : Nat} {W W1 W2 : World} (h : Fr lo hi W W1) (k : Fr lo hi W1 W2) : Fr lo hi W W2 := by
  obtain ⟨Z, a, hz⟩ := h
  obtain ⟨Y, b, hy⟩ := k
  exact ⟨Z ++ Y, (a.mono (fun x hx => List.mem_append_left _ hx)).trans (b.mono (fun x hx => List.mem_append_right _ hx)), fun k hk => (List.mem_append.1 hk).elim (hz k) (hy k)⟩
theorem Fr.one {lo hi P : Nat} {W W' : World} (a : Apart [P] W W') (h : lo ≤ P ∧ P < hi) : Fr lo hi W W' := ⟨[P], a, fun k hk => by simp at hk; rw [hk]; exact h⟩
theorem Fr.of0 {lo hi : Nat} {W W' : World} (a : Apart [] W W') : Fr lo hi W W' := ⟨[], a, by simp⟩
theorem Fr.base {lo hi : Nat} {w W W' : World} (h : Fr lo hi W W') (a : Apart [] w W) (hl : w.heap.size ≤ lo) : Apart [] w W' := by
  obtain ⟨Z, b, hz⟩ := h
  exact a.trans' b (fun y hy => .inr (by have := hz y hy; omega))
theorem Fr.block {lo hi : Nat} {W W' : World} (h : Fr lo hi W W') {Y : Nat} {o : Obj} (hY : W.heap[Y]? = some o) (hn : Y < lo ∨ hi ≤ Y) : W'.heap[Y]? = some o := by
  obtain ⟨Z, b, hz⟩ := h
  exact (b.block Y (lt_of_heap hY) (fun hm => by have := hz Y hm; omega)).trans hY

theorem gL_map {α β : Type} (f : List α → List β) {l : List (List α)} {i : Nat} (hi : i < l.length) : gL (l.map f) i = f (gL l i) := by
  unfold gL
  rw [List.getD_eq_getElem?_getD, List.getD_eq_getElem?_getD, List.getElem?_map, List.getElem?_eq_getElem hi]; rfl
theorem LD.killV {w W W' : World} {X lo lo' P : Nat} {sv sx : Sl} {vl xl : List Sl} {vb : List (List Nat)} {xb : List (List S)} (h : LD w W X lo lo' sv sx vl xl vb xb) (hlo : lo < vl.length) (hP : (gS vl lo).v.ownBlock = some P) (a : Apart [P] W W') (hPt : ∃ cur, W.heap[P]? = some (.cells cur 5 (0, 0))) : LD w W' X (lo + 1) lo' sv sx vl xl vb xb := by
  have hv := h.v.kill hlo hP a hPt (by decide)
  obtain ⟨cur, hPt⟩ := hPt
  have tk : TK [5] W W' := TK.one a hPt (by simp)
  exact ⟨tk.block h.blk (by decide), h.nb, hv, h.x.keep tk hv.nw.ap (by decide) (by decide)⟩
theorem LD.killX {w W W' : World} {X lo lo' P : Nat} {sv sx : Sl} {vl xl : List Sl} {vb : List (List Nat)} {xb : List (List S)} (h : LD w W X lo lo' sv sx vl xl vb xb) (hlo : lo' < xl.length) (hP : (gS xl lo').v.ownBlock = some P) (a : Apart [P] W W') (hPt : ∃ cur, W.heap[P]? = some (.cells cur 85 (0, 0))) : LD w W' X lo (lo' + 1) sv sx vl xl vb xb := by
  have hx := h.x.kill hlo hP a hPt (by decide)
  obtain ⟨cur, hPt⟩ := hPt
  have tk : TK [85] W W' := TK.one a hPt (by simp)
  exact ⟨tk.block h.blk (by decide), h.nb, h.v.keep tk hx.nw.ap (by decide) (by decide), hx⟩
/-- the element i of a list of lists -/
theorem RR.at {w W : World} {te size tl lo i : Nat} {s : Sl} {l : List Sl} {c : List (List Value)} (h : RR w W te size tl lo s l c) (hi : i < l.length) : ∃ G o, s.p = some ⟨G, o, none⟩ ∧ W.cell? ⟨G, o + i, none⟩ = some (.slice (gS l i).p (gS l i).n (gS l i).c) := by
  obtain ⟨P, o, e, hP, hc⟩ := h.nw.rd (by simp; omega)
  refine ⟨P, o, e, hc i _ ?_⟩
  rw [List.getElem?_map, List.getElem?_eq_getElem hi]
  unfold gS
  rw [List.getD_eq_getElem?_getD, List.getElem?_eq_getElem hi]; rfl
/-- the row i, its block and the mark behind it -/
theorem LD.rowV {w W : World} {X lo lo' i : Nat} {sv sx : Sl} {vl xl : List Sl} {vb : List (List Nat)} {xb : List (List S)} (h : LD w W X lo lo' sv sx vl xl vb xb) (hlo : lo ≤ i) (hi : i < vl.length) : ∃ P cur, (gS vl i).p = some ⟨P, 0, none⟩ ∧ (gS vl i).v.ownBlock = some P ∧ W.heap[P]? = some (.cells cur 5 (0, 0)) ∧ 0 < (gS vl i).n ∧ (gS vl i).n ≤ cur.size ∧ cur.size ≤ maxLen ∧ W.cell? ⟨P, (gS vl i).n - 1, none⟩ = some (.int .u8 167) ∧ w.heap.size ≤ P := by
  have hr := h.v.each i hlo hi
  rw [gL_map _ (by rw [(vl_len h).1]; exact hi)] at hr
  obtain ⟨e1, -⟩ := hr.bytes
  obtain ⟨P, cur, hp, ho, hb, hle, hs, ht, hn, hm⟩ := hr.blk (by omega)
  refine ⟨P, cur, hp, ho, hb, by omega, by omega, by omega, ?_, hn⟩
  obtain ⟨P', o, e, hP, hc⟩ := hr.rd (by rw [byts_len, List.length_append]; simp)
  rw [hp] at e
  simp at e
  obtain ⟨rfl, rfl⟩ := e
  have := hc ((gS vl i).n - 1) (.int .u8 167) (by rw [e1, byts_app, List.getElem?_append_right (by rw [byts_len]; omega), byts_len]; simp [byts])
  simpa using this
theorem LD.rowX {w W : World} {X lo lo' i : Nat} {sv sx : Sl} {vl xl : List Sl} {vb : List (List Nat)} {xb : List (List S)} (h : LD w W X lo lo' sv sx vl xl vb xb) (hlo : lo' ≤ i) (hi : i < xl.length) : ∃ P cur, (gS xl i).p = some ⟨P, 0, none⟩ ∧ (gS xl i).v.ownBlock = some P ∧ W.heap[P]? = some (.cells cur 85 (0, 0)) ∧ 0 < (gS xl i).n ∧ (gS xl i).n * 3 ≤ cur.size ∧ (gS xl i).n ≤ maxLen ∧ W.cell? ⟨P, ((gS xl i).n - 1) * 3, none⟩ = some (.int .i64 (-71)) ∧ W.cell? ⟨P, ((gS xl i).n - 1) * 3 + 1, none⟩ = some (.int .i64 (-72)) ∧ w.heap.size ≤ P := by
  have hr := h.x.each i hlo hi
  rw [gL_map _ (by rw [(vl_len h).2]; exact hi)] at hr
  have e1 : (gS xl i).n = (gL xb i).length + 1 := by
    have := hr.own.1
    rw [flat_length, List.length_append] at this
    simp at this
    omega
  obtain ⟨P, cur, hp, ho, hb, hle, hs, ht, hn, hm⟩ := hr.blk (by omega)
  have hsn : (gS xl i).n * 3 ≤ (gS xl i).c * 3 := Nat.mul_le_mul_right _ hle
  obtain ⟨P', o, e, hP, hc⟩ := hr.rd (by rw [flat_length, List.length_append]; simp)
  rw [hp] at e
  simp at e
  obtain ⟨rfl, rfl⟩ := e
  have hg : g (gL xb i ++ [mkS]) ((gS xl i).n - 1) = mkS := by
    unfold g
    rw [List.getD_eq_getElem?_getD, List.getElem?_append_right (by omega), e1, Nat.add_sub_cancel, Nat.sub_self]; rfl
  obtain ⟨q0, q1, q2⟩ := flat_get (gL xb i ++ [mkS]) ((gS xl i).n - 1) (by rw [List.length_append]; simp; omega)
  rw [hg] at q0 q1
  have c0 := hc _ _ q0
  have c1 := hc _ _ q1
  exact ⟨P, cur, hp, ho, hb, by omega, by omega, by omega, by simpa [mkS] using c0, by simpa [mkS] using c1, hn⟩
end Go.Proofs.Ytllhmidpphlbhaa.ds
namespace Go.Proofs.Ytllhmidpphlbhaa.ds
open Go.ChangeShapes Go.WideShapes Go.ChangeAt Go.RowKit Go.Sort
set_option linter.unusedVariables false
set_option linter.unusedSimpArgs false
/-- the blocks of the rows lie below hi -/
def Lows (vl : List Sl) (hi : Nat) : Prop := ∀ i, i < vl.length → ∀ k, (gS vl i).v.ownBlock = some k → k < hi
theorem RR.lows {w W : World} {te size tl lo : Nat} {s : Sl} {l : List Sl} {c : List (List Value)} (h : RR w W te size tl lo s l c) : Lows l W.heap.size := fun i hi k hk => by
  obtain ⟨q, e1, e2, _⟩ := h.has i hi
  rw [hk] at e1
  simp at e1
  omega
set_option maxHeartbeats 8000000 in
set_option maxRecDepth 100000 in
theorem kept_ok {w W : World} {X : Nat} {sv sx : Sl} {vl xl : List Sl} {vb : List (List Nat)} {xb : List (List S)} (h : LD w W X 0 0 sv sx vl xl vb xb) (hi : Nat) (hV : Lows vl hi) (hX : Lows xl hi) (hl : vl.length ≤ 2000000) (hl' : xl.length ≤ 2000000) : Calls Try.prog 45 #[.pointer (some ⟨X, 0, none⟩)] W fun r W' => r = .returned (.bool true) ∧ Fr w.heap.size hi W W' := by
  have HL := hid h
  have HV := hid hV
  have HX := hid hX
  have HSV := hid h.v.len
  have HSX := hid h.x.len
  clear h hV hX
  go_enter Try.func45, Try.ntmps45
  go_wp2_with fail
  go_loopw [3, 4, 5, 6] (fun a b _ _ wt => ∃ i : Nat, a = .bool true ∧ b = .int .i64 (i : Nat) ∧ i ≤ vl.length ∧ LD w wt X i 0 sv sx vl xl vb xb ∧ Fr w.heap.size hi W wt) (fun _ b _ _ _ => vl.length - (intOf b).toNat)
  case atStart => exact ⟨0, rfl, rfl, Nat.zero_le _, HL.out, Fr.refl _ _ _⟩
  case round =>
    obtain ⟨i, rfl, rfl, hile, hld, hfr⟩ := hrel
    have HD := hid hld
    have HF := hid hfr
    have z0 : wr.cell? ⟨X, 0, none⟩ = some (.slice sv.p sv.n sv.c) := by rw [cell_of_row _ _ _ _ _ _ hld.blk]; rfl
    clear hld hfr
    generalize wr = wq at *
    by_cases hlt : i < vl.length
    · have hlti : ((i : Nat) : Int) < (sv.n : Int) := by rw [HSV.out]; omega
      obtain ⟨G, o, hG, hc⟩ := HD.out.v.at hlt
      obtain ⟨P, cur, hp, ho, hb, hn0, hcs, hcm, hmk, hPw⟩ := HD.out.rowV (Nat.le_refl i) hlt
      have HO := hid ho
      have HB := hid hb
      have HPW := hid hPw
      have HPH := hid (HV.out i hlt P ho)
      clear ho hb hPw
      obtain ⟨t, Ht⟩ : ∃ t, Hid (t = gS vl i) := ⟨_, rfl⟩
      rw [← Ht.out] at hc hp hn0 hcs hmk
      obtain ⟨tp, tn, tc⟩ := t
      simp only at hc hp hn0 hcs hmk
      subst hp
      obtain ⟨svp, svn, svc⟩ := sv
      simp only at hG
      subst hG
      simp only at hlti z0
      unfold maxLen at hcm
      have hw1 : IntKind.i64.wrap ((tn : Int) - 1) = ((tn - 1 : Nat) : Int) := by rw [IntKind.wrap_i64]; omega
      have hb1 : ((tn - 1 : Nat) : Int) < (tn : Int) := by omega
      have hb2 : tn - 1 < tn := by omega
      go_wp2_with fail
      clear hc hmk z0
      go_loopw [6] (fun b wt => ∃ (j : Nat) (cur' : Array Value), b = .int .i64 (j : Nat) ∧ j ≤ tn ∧ wt.heap[P]? = some (.cells cur' 5 (0, 0)) ∧ cur'.size = cur.size ∧ Apart [P] wq wt) (fun b _ => tn - (intOf b).toNat)
      case atStart => exact ⟨0, cur, rfl, Nat.zero_le _, HB.out, rfl, Apart.refl _ _⟩
      case round =>
        obtain ⟨j, cur', rfl, hjle, hbj, hsz, hap⟩ := hrel
        have HAP := hid hap
        clear hap
        by_cases hjl : j < tn
        · have hji : ((j : Nat) : Int) < (tn : Int) := by omega
          obtain ⟨u, hu⟩ : ∃ u, cur'[j]? = some u := ⟨_, Array.getElem?_eq_getElem (by omega)⟩
          have hcj : wr.cell? ⟨P, j, none⟩ = some u := by rw [cell_of_row _ _ _ _ _ _ hbj]; exact hu
          have hfj := frozen_of_row _ _ j _ _ hbj
          have HB2 := hid (heap_setCell_same wr P j _ 5 (.int .u8 33) hbj)
          have HA2 : Hid (Apart [P] wq (wr.setCell ⟨P, j, none⟩ (.int .u8 33))) := HAP.out.setCell (.inl (by simp)) _
          have HSZ := hid hsz
          clear hbj hu hsz
          go_wp2_with fail
          go_roundw
          case rel => exact ⟨j + 1, _, by go_num, by omega, HB2.out, by simp; exact HSZ.out, HA2.out⟩
          case measure => simp [intOf]; omega
        · have hji : ¬ ((j : Nat) : Int) < (tn : Int) := by omega
          have HD2 := hid (HD.out.killV hlt HO.out HAP.out ⟨_, HB.out⟩)
          have HF2 := hid (HF.out.trans (Fr.one HAP.out ⟨HPW.out, HPH.out⟩))
          clear hbj hsz
          go_wp2_with fail
          go_roundw
          case rel => exact ⟨i + 1, rfl, by go_num, by omega, HD2.out, HF2.out⟩
          case measure => simp [intOf]; omega
    · have hlti : ¬ ((i : Nat) : Int) < (sv.n : Int) := by rw [HSV.out]; omega
      have hie : i = vl.length := by omega
      subst hie
      generalize vl.length = vn at *
      go_wp2_with fail
      clear z0
      go_loopw [3, 7, 8, 9] (fun a b _ _ wt => ∃ i : Nat, a = .bool true ∧ b = .int .i64 (i : Nat) ∧ i ≤ xl.length ∧ LD w wt X vn i sv sx vl xl vb xb ∧ Fr w.heap.size hi W wt) (fun _ b _ _ _ => xl.length - (intOf b).toNat)
      case atStart => exact ⟨0, rfl, rfl, Nat.zero_le _, HD.out, HF.out⟩
      case round =>
        clear HD HF
        obtain ⟨i, rfl, rfl, hile, hld, hfr⟩ := hrel
        have HD := hid hld
        have HF := hid hfr
        have z0 : wr.cell? ⟨X, 1, none⟩ = some (.slice sx.p sx.n sx.c) := by rw [cell_of_row _ _ _ _ _ _ hld.blk]; rfl
        clear hld hfr
        generalize wr = wk at *
        by_cases hlt : i < xl.length
        · have hlti : ((i : Nat) : Int) < (sx.n : Int) := by rw [HSX.out]; omega
          obtain ⟨G, o, hG, hc⟩ := HD.out.x.at hlt
          obtain ⟨P, cur, hp, ho, hb, hn0, hcs, hcm, hmk, hmk2, hPw⟩ := HD.out.rowX (Nat.le_refl i) hlt
          have HO := hid ho
          have HB := hid hb
          have HPW := hid hPw
          have HPH := hid (HX.out i hlt P ho)
          clear ho hb hPw
          obtain ⟨t, Ht⟩ : ∃ t, Hid (t = gS xl i) := ⟨_, rfl⟩
          rw [← Ht.out] at hc hp hn0 hcs hmk hmk2 hcm
          obtain ⟨tp, tn, tc⟩ := t
          simp only at hc hp hn0 hcs hmk hmk2 hcm
          subst hp
          obtain ⟨sxp, sxn, sxc⟩ := sx
          simp only at hG
          subst hG
          simp only at hlti z0
          unfold maxLen at hcm
          have hw1 : IntKind.i64.wrap ((tn : Int) - 1) = ((tn - 1 : Nat) : Int) := by rw [IntKind.wrap_i64]; omega
          have hb1 : ((tn - 1 : Nat) : Int) < (tn : Int) := by omega
          have hb2 : tn - 1 < tn := by omega
          go_wp2_with fail
          clear hc hmk hmk2 z0
          go_loopw [9] (fun b wt => ∃ (j : Nat) (cur' : Array Value), b = .int .i64 (j : Nat) ∧ j ≤ tn ∧ wt.heap[P]? = some (.cells cur' 85 (0, 0)) ∧ cur'.size = cur.size ∧ Apart [P] wk wt) (fun b _ => tn - (intOf b).toNat)
          case atStart => exact ⟨0, cur, rfl, Nat.zero_le _, HB.out, rfl, Apart.refl _ _⟩
          case round =>
            obtain ⟨j, cur', rfl, hjle, hbj, hsz, hap⟩ := hrel
            have HAP := hid hap
            clear hap
            by_cases hjl : j < tn
            · have hji : ((j : Nat) : Int) < (tn : Int) := by omega
              obtain ⟨u, hu⟩ : ∃ u, cur'[j * 3]? = some u := ⟨_, Array.getElem?_eq_getElem (by omega)⟩
              obtain ⟨u1, hu1⟩ : ∃ u, cur'[j * 3 + 1]? = some u := ⟨_, Array.getElem?_eq_getElem (by omega)⟩
              obtain ⟨u2, hu2⟩ : ∃ u, cur'[j * 3 + 2]? = some u := ⟨_, Array.getElem?_eq_getElem (by omega)⟩
              have hcj : wr.cell? ⟨P, j * 3, none⟩ = some u := by rw [cell_of_row _ _ _ _ _ _ hbj]; exact hu
              have hcj1 : wr.cell? ⟨P, j * 3 + 1, none⟩ = some u1 := by rw [cell_of_row _ _ _ _ _ _ hbj]; exact hu1
              have hcj2 : wr.cell? ⟨P, j * 3 + 2, none⟩ = some u2 := by rw [cell_of_row _ _ _ _ _ _ hbj]; exact hu2
              have hfj := frozen_of_row _ _ (j * 3) _ _ hbj
              have hfj1 := frozen_of_row _ _ (j * 3 + 1) _ _ hbj
              have hfj2 := frozen_of_row _ _ (j * 3 + 2) _ _ hbj
              obtain ⟨wz, hwz⟩ : ∃ V, V = ((wr.setCell ⟨P, j * 3, none⟩ (.int .i64 9)).setCell ⟨P, j * 3 + 1, none⟩ (.int .i64 0)).setCell ⟨P, j * 3 + 2, none⟩ (.int .u64 0) := ⟨_, rfl⟩
              have HB2 := hid (heap_setCell_same _ P (j * 3 + 2) _ 85 (.int .u64 0) (heap_setCell_same _ P (j * 3 + 1) _ 85 (.int .i64 0) (heap_setCell_same wr P (j * 3) _ 85 (.int .i64 9) hbj)))
              rw [← hwz] at HB2
              have HA2 : Hid (Apart [P] wk wz) := by unfold Hid; rw [hwz]; exact ((HAP.out.setCell (.inl (by simp)) _).setCell (.inl (by simp)) _).setCell (.inl (by simp)) _
              have HSZ := hid hsz
              clear hbj hu hu1 hu2 hsz
              go_wp2_with fail
              rw [← hwz]
              go_roundw
              case rel => exact ⟨j + 1, _, by go_num, by omega, HB2.out, by simp; exact HSZ.out, HA2.out⟩
              case measure => simp [intOf]; omega
            · have hji : ¬ ((j : Nat) : Int) < (tn : Int) := by omega
              have HD2 := hid (HD.out.killX hlt HO.out HAP.out ⟨_, HB.out⟩)
              have HF2 := hid (HF.out.trans (Fr.one HAP.out ⟨HPW.out, HPH.out⟩))
              clear hbj hsz
              go_wp2_with fail
              go_roundw
              case rel => exact ⟨i + 1, rfl, by go_num, by omega, HD2.out, HF2.out⟩
              case measure => simp [intOf]; omega
        · have hlti : ¬ ((i : Nat) : Int) < (sx.n : Int) := by rw [HSX.out]; omega
          go_wp2_with fail
          go_ret
          exact ⟨rfl, HF.out⟩

end Go.Proofs.Ytllhmidpphlbhaa.ds
namespace Go.Proofs.Ytllhmidpphlbhaa.ds
open Go.ChangeShapes Go.WideShapes Go.ChangeAt Go.RowKit Go.Sort
set_option linter.unusedVariables false
set_option linter.unusedSimpArgs false
set_option maxHeartbeats 4000000 in
set_option maxRecDepth 100000 in
/-- the first of some writes -/
theorem first_ok {w : World} {s : Sl} {es : List E} {rs : List Wr} (h : RWs w s es rs) : Calls Try.prog 42 #[.slice s.p s.n s.c] w fun q w' => q = .returned (.agg #[.int .i64 (gE es 0).n, .int .i64 (gE es 0).c, .string (gE es 0).k, .bool (gE es 0).d, .slice (gE es 0).v.p (gE es 0).v.n (gE es 0).v.c, .slice (gE es 0).x.p (gE es 0).x.n (gE es 0).x.c]) ∧ Apart [] w w' := by
  obtain ⟨A, HXA⟩ : ∃ A, Hid (A = w.heap.size) := ⟨_, rfl⟩
  obtain ⟨W0, hW0⟩ : ∃ V, V = w.alloc (.cells #[.int .i64 0, .int .i64 0, .string ⟨#[]⟩, .bool false, .slice none 0 0, .slice none 0 0] 50) := ⟨_, rfl⟩
  have a0 : Apart [] w W0 := by rw [hW0]; exact (Apart.refl [] w).alloc _
  have hA0 : W0.heap[A]? = some (.cells #[.int .i64 0, .int .i64 0, .string ⟨#[]⟩, .bool false, .slice none 0 0, .slice none 0 0] 50 (0, 0)) := by rw [hW0, HXA.out]; exact heap_alloc_new w _
  obtain ⟨b0, b1, b2, b3, b4, b5⟩ := rowv6 hA0
  have g0 := frozen_of_row _ _ 0 _ _ hA0
  have g1 := frozen_of_row _ _ 1 _ _ hA0
  have g2 := frozen_of_row _ _ 2 _ _ hA0
  have g3 := frozen_of_row _ _ 3 _ _ hA0
  have g4 := frozen_of_row _ _ 4 _ _ hA0
  have g5 := frozen_of_row _ _ 5 _ _ hA0
  obtain ⟨e, He⟩ : ∃ e, Hid (e = gE es 0) := ⟨_, rfl⟩
  rw [← He.out]
  obtain ⟨hB9, a9⟩ := set6 (.int .i64 e.n) (.int .i64 e.c) (.string e.k) (.bool e.d) (.slice e.v.p e.v.n e.v.c) (.slice e.x.p e.x.n e.x.c) hA0
  have HA9 := hid (a0.trans' a9 (fun y hy => by simp at hy; exact .inr (by rw [hy, HXA.out]; exact Nat.le_refl _)))
  have HB9 := hid hB9
  clear hB9 a9 hA0
  by_cases hn : s.n = 0
  · have he : e = E.z := by
      rw [He.out]
      unfold gE
      have := h.el
      rw [hn] at this
      rw [List.length_eq_zero_iff.1 this]; rfl
    have hni : (s.n : Int) = 0 := by omega
    have HE := hid he
    clear he h a0
    have e0 : e.n = 0 ∧ e.c = 0 ∧ e.k = ⟨#[]⟩ ∧ e.d = false ∧ e.v = ⟨none, 0, 0⟩ ∧ e.x = ⟨none, 0, 0⟩ := by rw [HE.out]; exact ⟨rfl, rfl, rfl, rfl, rfl, rfl⟩
    obtain ⟨q0, q1, q2, q3, q4, q5⟩ := e0
    rw [q0, q1, q2, q3, q4, q5] at HB9 HA9 ⊢
    clear q0 q1 q2 q3 q4 q5
    go_enter Try.func42, Try.ntmps42
    go_upto_region 1 with fail
    rw [← hW0, ← HXA.out]
    clear hW0
    go_wp2_with fail
    obtain ⟨d0, d1, d2, d3, d4, d5⟩ := rowv6 HB9.out
    refine bodyPost_ret (v := .agg #[.int .i64 0, .int .i64 0, .string ⟨#[]⟩, .bool false, .slice none 0 0, .slice none 0 0]) ?_ rfl ⟨rfl, HA9.out⟩
    simp [results, Try.results42, go_sem, d0, d1, d2, d3, d4, d5]
  · have hni : ¬ (s.n : Int) = 0 := by omega
    have hni2 : (0 : Int) < (s.n : Int) := by omega
    obtain ⟨P, o, hP, hPl, c0, c1, c2, c3, c4, c5⟩ := (h.kept0 a0).cells 0 (by omega)
    rw [← He.out] at c0 c1 c2 c3 c4 c5
    simp only [Nat.zero_mul, Nat.add_zero] at c0 c1 c2 c3 c4 c5
    obtain ⟨sp, sn, sc⟩ := s
    have hn3 : 0 < sn := by dsimp only at hn; omega
    dsimp only at hP hni hni2 hn
    subst hP
    clear h a0
    go_enter Try.func42, Try.ntmps42
    go_upto_region 1 with fail
    rw [← hW0, ← HXA.out]
    clear hW0
    have hbe : (((sn : Nat) : Int) == 0) = false := by rw [beq_eq_false_iff_ne]; exact hni
    go_upto_if 5 with fail
    clear hbe hni hn
    go_wp2_with fail
    obtain ⟨d0, d1, d2, d3, d4, d5⟩ := rowv6 HB9.out
    refine bodyPost_ret (v := .agg #[.int .i64 e.n, .int .i64 e.c, .string e.k, .bool e.d, .slice e.v.p e.v.n e.v.c, .slice e.x.p e.x.n e.x.c]) ?_ rfl ⟨rfl, HA9.out⟩
    simp [results, Try.results42, go_sem, d0, d1, d2, d3, d4, d5]
end Go.Proofs.Ytllhmidpphlbhaa.ds
