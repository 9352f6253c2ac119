import Derived.Test.YtllhmidpphlbhaaG26
import Derived.Test.YtllhmidpphlbhaaG31
namespace Go.Proofs.Ytllhmidpphlbhaa.ds
open Go.ChangeShapes Go.WideShapes Go.ChangeAt Go.RowKit Go.Sort
set_option linter.unusedVariables false
set_option linter.unusedSimpArgs false
theorem info61 : (Try.prog.info? 61).map (fun i => (i.zero, i.size, i.bytes)) = some (some (.agg #[.int .i64 0, .slice none 0 0]), 2, 32) := by kernel_rfl
theorem flatK_app : ∀ (a b : List Ck), flatK (a ++ b) = flatK a ++ flatK b
  | [], b => rfl
  | k :: l, b => by show k.cs ++ flatK (l ++ b) = k.cs ++ flatK l ++ flatK b; rw [flatK_app l b, List.append_assoc]
theorem app_ck {w W : World} {sk : Sl} {kk : List Ck} (h : Nw w W 61 2 sk (flatK kk)) (k : Ck) (hl : kk.length ≤ 2000000) :
    ∃ s' W', (Builtin.append_ #[22, 22] 22 #[.slice sk.p sk.n sk.c, .slice (some ⟨W.heap.size, 0, none⟩) 1 1]).run Try.prog (W.alloc (Obj.cells #[.int .i64 k.r, .slice k.s.p k.s.n k.s.c] 61)) = .ok (.slice s'.p s'.n s'.c) W' ∧ Nw w W' 61 2 s' (flatK (kk ++ [k])) ∧ TK [61] W W' ∧ s'.n = kk.length + 1 := by
  obtain ⟨i0, hif, hz0, hz1, hz2⟩ := info_parts info61
  have hlen : sk.n = kk.length := by have := h.own.1; rw [flatK_len] at this; omega
  obtain ⟨s5, w5, hrun, hnw5, hs5, ap5, k5, hk5, -, hk6⟩ := run_appM (s := sk) 22 22 61 i0 _ 2 32 Try.underlying22 hif hz0 hz1 hz2 rfl (by decide) h 1 k.cs (by decide) rfl (fun u hu => by simp [Ck.cs] at hu; rcases hu with rfl | rfl <;> rfl) (by unfold maxLen; omega) (by omega)
  exact ⟨s5, w5, hrun, by rw [flatK_app]; exact hnw5, TK.own h ap5 (by simp), by omega⟩
def mkK : Ck := ⟨-71, slz⟩
/-- clocks that are being lent: the content's box A, what is lent X, the list -/
structure LCI (w wt : World) (A X : Nat) (row : Array Value) (cs : List (Int × List S)) (i : Nat) (sk sx : Sl) (xl : List Sl) (kk tl : List Ck) : Prop where
  ld : LD w wt X 0 0 slz sx [] xl [] ((cs.take i).map Prod.snd)
  k : Nw w wt 61 2 sk (flatK (kk ++ tl))
  kn : kk.length = i
  xn : xl.length = i
  ke : ∀ j, j < i → gK kk j = ⟨(gC cs j).1, ⟨(gS xl j).p, (gC cs j).2.length, (gS xl j).c⟩⟩
  a : wt.heap[A]? = some (.cells row 25 (0, 0))
theorem LCI.kept0 {w wt W : World} {A X : Nat} {row : Array Value} {cs : List (Int × List S)} {i : Nat} {sk sx : Sl} {xl : List Sl} {kk tl : List Ck} (h : LCI w wt A X row cs i sk sx xl kk tl) (a : Apart [] wt W) : LCI w W A X row cs i sk sx xl kk tl :=
  { h with ld := h.ld.kept0 a, k := h.k.kept a, a := keep0 a h.a }
theorem gK_l {l : List Ck} {t : List Ck} {i : Nat} (h : i < l.length) : gK (l ++ t) i = gK l i := by unfold gK; rw [List.getD_eq_getElem?_getD, List.getD_eq_getElem?_getD, List.getElem?_append_left h]
theorem gK_r {l : List Ck} {t : Ck} : gK (l ++ [t]) l.length = t := by unfold gK; rw [List.getD_eq_getElem?_getD, List.getElem?_append_right (Nat.le_refl _), Nat.sub_self]; rfl
theorem takeC_s {cs : List (Int × List S)} {i : Nat} (hi : i < cs.length) : (cs.take (i + 1)).map Prod.snd = (cs.take i).map Prod.snd ++ [(gC cs i).2] := by
  rw [List.take_succ_eq_append_getElem hi, List.map_append]
  unfold gC
  rw [List.getD_eq_getElem?_getD, List.getElem?_eq_getElem hi]; rfl
theorem LCI.next {w wd wa : World} {A X : Nat} {row : Array Value} {cs : List (Int × List S)} {i : Nat} {sk sx sx' t : Sl} {xl : List Sl} {kk : List Ck} (h : LCI w wd A X row cs i sk sx xl kk []) (hi : i < cs.length) (hl : cs.length ≤ 2000000)
    (hL : LD w wa X 0 0 slz sx' [] (xl ++ [t]) [] ((cs.take i).map Prod.snd ++ [(gC cs i).2])) (tk : TK [48, 88] wd wa) :
    ∃ s' W', (Builtin.append_ #[22, 22] 22 #[.slice sk.p sk.n sk.c, .slice (some ⟨wa.heap.size, 0, none⟩) 1 1]).run Try.prog (wa.alloc (Obj.cells #[.int .i64 (gC cs i).1, .slice t.p (gC cs i).2.length t.c] 61)) = .ok (.slice s'.p s'.n s'.c) W' ∧ LCI w W' A X row cs (i + 1) s' sx' (xl ++ [t]) (kk ++ [⟨(gC cs i).1, ⟨t.p, (gC cs i).2.length, t.c⟩⟩]) [] := by
  have hk := tk.nw h.k hL.ap (by decide)
  rw [List.append_nil] at hk
  obtain ⟨s', W', hrun, hn, tk2, -⟩ := app_ck hk ⟨(gC cs i).1, ⟨t.p, (gC cs i).2.length, t.c⟩⟩ (by rw [h.kn]; omega)
  refine ⟨s', W', hrun, ⟨?_, by rw [List.append_nil]; exact hn, by simp [h.kn], by simp [h.xn], fun j hj => ?_, tk2.block (tk.block h.a (by decide)) (by decide)⟩⟩
  · rw [takeC_s hi]
    exact hL.keep tk2 hn.ap (by decide)
  · by_cases hji : j < i
    · rw [gK_l (by rw [h.kn]; exact hji), gS_l (by rw [h.xn]; exact hji)]
      exact h.ke j hji
    · have e1 : j = i := by omega
      subst e1
      have q1 : gK (kk ++ [⟨(gC cs j).1, ⟨t.p, (gC cs j).2.length, t.c⟩⟩]) j = ⟨(gC cs j).1, ⟨t.p, (gC cs j).2.length, t.c⟩⟩ := by
        have := gK_r (l := kk) (t := ⟨(gC cs j).1, ⟨t.p, (gC cs j).2.length, t.c⟩⟩)
        rw [h.kn] at this
        exact this
      have q2 : gS (xl ++ [t]) j = t := by
        have := gS_r (l := xl) (t := t)
        rw [h.xn] at this
        exact this
      rw [q1, q2]
theorem LCI.mark {w wd : World} {A X : Nat} {row : Array Value} {cs : List (Int × List S)} {i : Nat} {sk sx : Sl} {xl : List Sl} {kk : List Ck} (h : LCI w wd A X row cs i sk sx xl kk []) (hl : i ≤ 2000000) :
    ∃ s' W', (Builtin.append_ #[22, 22] 22 #[.slice sk.p sk.n sk.c, .slice (some ⟨wd.heap.size, 0, none⟩) 1 1]).run Try.prog (wd.alloc (Obj.cells #[.int .i64 (-71), .slice none 0 0] 61)) = .ok (.slice s'.p s'.n s'.c) W' ∧ LCI w W' A X row cs i s' sx xl kk [mkK] ∧ s'.n = i + 1 := by
  have hk := h.k
  rw [List.append_nil] at hk
  obtain ⟨s', W', hrun, hn, tk2, hs⟩ := app_ck hk mkK (by rw [h.kn]; omega)
  exact ⟨s', W', hrun, ⟨h.ld.keep tk2 hn.ap (by decide), hn, h.kn, h.xn, h.ke, tk2.block h.a (by decide)⟩, by rw [hs, h.kn]⟩
/-- the lent clocks as they read -/
theorem LCI.rcs {w wt : World} {A X : Nat} {row : Array Value} {cs : List (Int × List S)} {sk sx : Sl} {xl : List Sl} {kk : List Ck} (h : LCI w wt A X row cs cs.length sk sx xl kk [mkK]) (hf : ∀ j, j < cs.length → (∀ x ∈ (gC cs j).2, x.t < 2 ^ 64) ∧ (gC cs j).2.length ≤ 2000000) (hl : cs.length ≤ 2000000) : RCs wt ⟨sk.p, cs.length, sk.c⟩ kk cs := by
  have hrd := h.k.rd
  rw [flatK_app] at hrd
  have hsn : sk.n = cs.length + 1 := by have := h.k.own.1; rw [flatK_len, List.length_append, h.kn] at this; simp at this; omega
  obtain ⟨g, cur, hp, _⟩ := h.k.blk (by omega)
  refine ⟨hrd.pre, h.kn, rfl, fun j hj => ?_, hl, fun hq => by simp only at hq; rw [hp] at hq; simp at hq⟩
  simp only at hj
  rw [h.ke j hj]
  have hr := h.ld.x.each j (Nat.zero_le _) (by rw [h.xn]; exact hj)
  have e0 : (cs.take cs.length) = cs := List.take_length
  have e1 : gL ((cs.take cs.length).map Prod.snd) j = (gC cs j).2 := by
    rw [e0]
    unfold gL gC
    rw [List.getD_eq_getElem?_getD, List.getD_eq_getElem?_getD, List.getElem?_map, List.getElem?_eq_getElem hj]; rfl
  rw [gL_map _ (by rw [e0, List.length_map]; exact hj), e1] at hr
  obtain ⟨_, h2, h3, _⟩ := hr.spans (hf j hj).1 (hf j hj).2
  exact ⟨rfl, h2, h3⟩
/-- what building answers, in one -/
theorem BO.q {w w' : World} {q : Ending} {e : Int} {c : Pc} (h : BO w w' q e c) : ∃ sp : Sl, q = .returned (.tuple #[.slice sp.p sp.n sp.c, .int .i64 e]) ∧ (e ≠ 0 → sp = slz) ∧ (e = 0 → ∃ g, sp = ⟨some ⟨g, 0, none⟩, 2048, 2048⟩ ∧ w.heap.size ≤ g ∧ w'.heap[g]? = some (.cells (byts (pad (encPc c))).toArray 5 (0, 0))) := by
  by_cases he : e = 0
  · obtain ⟨g, h1, h2, h3⟩ := h.ok he
    exact ⟨⟨some ⟨g, 0, none⟩, 2048, 2048⟩, by rw [h1, he], fun h => absurd he h, fun _ => ⟨g, rfl, h2, h3⟩⟩
  · exact ⟨slz, h.no he, fun _ => rfl, fun h => absurd h he⟩
/-- what the law's building answers: all that was handed in stands -/
structure CO (w w' : World) (q : Ending) (e : Int) (c : Pc) : Prop where
  a : Apart [] w w'
  ex : ∃ sp : Sl, q = .returned (.tuple #[.slice sp.p sp.n sp.c, .int .i64 e, .bool true]) ∧ (e ≠ 0 → sp = slz) ∧ (e = 0 → ∃ g, sp = ⟨some ⟨g, 0, none⟩, 2048, 2048⟩ ∧ w.heap.size ≤ g ∧ w'.heap[g]? = some (.cells (byts (pad (encPc c))).toArray 5 (0, 0)))
end Go.Proofs.Ytllhmidpphlbhaa.ds
