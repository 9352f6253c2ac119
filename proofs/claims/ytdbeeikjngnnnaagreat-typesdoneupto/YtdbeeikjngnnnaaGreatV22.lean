import Derived.Test.YtdbeeikjngnnnaaGreatChecked
import Derived.WalkKit
import Derived.ProofKit
import Derived.OpenShut
import Derived.Deep.QuietTactic
import Derived.BigQuiet
import Derived.BigRegion
import Derived.Laws.CopyOwn
import Derived.Laws.IdiomCopy
import Derived.WalkSmall
import Derived.Laws.ResultCell
import Derived.Laws.AppendOwnNone
import Derived.Deep.RegionHeld
import Derived.Deep.DeepAppendRoom
import Derived.Great.BuildSlice
import Derived.Deep.CutBlock
import Derived.Deep.RegionLaw
import Derived.ArgAppend
import Derived.Laws.Strings
import Derived.Laws.StructEq
import Derived.Below
import Derived.Deep.MidRow
import Derived.Great.Ranges
import Derived.Deep.RegionHeld3
import Derived.Laws.NewBlocks
import Derived.OrdersHeld
import Derived.Stop.BytesEq
import Derived.Laws.BytesString
import Derived.Lib.ConvBytes
import Derived.Laws.BitsAllLaws
import Derived.WalkLawsBesides
import Derived.Lib.Bytealg
import Derived.Laws.Externs
import Derived.Lib.SliceRun
import Derived.Lib.AppendZerosOnto
import Derived.Lib.AppendStr
import Derived.Lib.SlBytesConst
import Derived.Sort.Walk0
import Derived.Laws.Cover1
import Derived.Lib.Strings
import Derived.Lib.MinMaxS
import GoSem.Claim
import GoSem.ClaimJoined
import GoSem.ClaimMapViews
import Derived.JoinedTies
import Derived.KernelRfl
import Derived.JoinedCond
import Derived.ShutString
import Derived.ChangeOld
import Derived.Carry
import Derived.ChangeSlices
import Derived.Deep.Slices
import Derived.Deep.DeepHandedRow
import Derived.RowKit
import Derived.ChangeShapes
import Derived.SizedLaws
import Derived.ChangeMaps5
import Derived.Sort.WalkA
import Derived.Test.YtdbeeikjngnnnaaGreatRows
import Derived.Test.YtdbeeikjngnnnaaGreatV21
namespace Go.Proofs.YtdbeeikjngnnnaaGreat.ty
open Go.ChangeShapes Go.WideShapes Go.ChangeAt Go.RowKit
set_option linter.unusedVariables false
set_option linter.unusedSimpArgs false
theorem RdT.tk {w w' : World} {p : Option Addr} {t : Nat} {us : List Value} {ts : List Nat} (h : RdT w p t us) (k : TK ts w w') (ht : t ∉ ts) : RdT w' p t us := by
  obtain ⟨Z, a, hz⟩ := k
  refine h.kept a (fun k hk cur m e => ?_)
  obtain ⟨cu, t', ht', hh⟩ := hz k hk
  rw [hh] at e
  simp only [Option.some.injEq, Obj.cells.injEq] at e
  exact ht (e.2.1 ▸ ht')
def svs (l : List Sl) : List Value := l.map fun b => Value.slice b.p b.n b.c
theorem info22 : (Tryz.prog.info? 29).map (fun i => (i.zero, i.size, i.bytes)) = some (some (.slice none 0 0), 1, 24) := by kernel_rfl
theorem app_elem {w W : World} {s : Sl} {l : List Sl} (h : Nw w W 29 1 s (svs l)) (b : Sl) (hl : s.n + 1 ≤ 1000000) :
    ∃ s' W', (Builtin.append_ #[46, 46] 46 #[.slice s.p s.n s.c, .slice (some ⟨W.heap.size, 0, none⟩) 1 1]).run Tryz.prog (W.alloc (Obj.cells #[.slice b.p b.n b.c] 29)) = .ok (.slice s'.p s'.n s'.c) W' ∧ Nw w W' 29 1 s' (svs (l ++ [b])) ∧ s'.n = s.n + 1 ∧ TK [29] W W' := by
  obtain ⟨i0, hif, hz0, hz1, hz2⟩ := info_of info22
  obtain ⟨s5, w5, hrun, hnw5, hs5, ap5, -⟩ := run_appM (s := s) 46 46 29 i0 _ 1 24 Tryz.underlying46 hif hz0 hz1 hz2 rfl (by decide) h 1 (svs [b]) (by decide) rfl (by intro u hu; simp [svs] at hu; subst hu; rfl) (by unfold maxLen; omega) (by omega)
  exact ⟨s5, w5, hrun, by unfold svs at *; rw [List.map_append]; exact hnw5, hs5, TK.own h ap5 (by simp)⟩
end Go.Proofs.YtdbeeikjngnnnaaGreat.ty
namespace Go.Proofs.YtdbeeikjngnnnaaGreat.ty
open Go.ChangeShapes Go.WideShapes Go.ChangeAt Go.RowKit
set_option linter.unusedVariables false
set_option linter.unusedSimpArgs false
def ptV (b : Nat) : Value := .pointer (some ⟨b, 0, none⟩)
def tbG (k : Nat) (p r : Nat → Value) (sH sL : Sl) : List Value := [.int .i64 (k : Int), p 0, p 1, p 2, p 3, r 0, r 1, r 2, r 3, .slice sH.p sH.n sH.c, .slice sL.p sL.n sL.c]
def tbC (k : Nat) (p r : Nat → Nat) (sH sL : Sl) : List Value := tbG k (fun i => ptV (p i)) (fun i => ptV (r i)) sH sL
def upd {α : Type} (f : Nat → α) (i : Nat) (x : α) : Nat → α := fun j => if j = i then x else f j
theorem upd_same {α : Type} (f : Nat → α) (i : Nat) (x : α) : upd f i x i = x := by simp [upd]
theorem upd_other {α : Type} (f : Nat → α) {i j : Nat} (x : α) (h : j ≠ i) : upd f i x j = f j := by simp [upd, h]
theorem upd_self {α : Type} (f : Nat → α) (i : Nat) : upd f i (f i) = f := by
  funext j
  unfold upd
  split
  · rename_i h; rw [h]
  · rfl
/-- the mark of what was held -/
def mkN (q : Nat) : Nat := q % 250 + 1
structure Tb (wB w : World) (T k : Nat) (p r : Nat → Nat) (v : Nat → Vl) (ts : Nat → List Tg) (H L : List Sl) (sH sL : Sl) (h : Nat → Prop) : Prop where
  blk : w.heap[T]? = some (.cells (tbC k p r sH sL).toArray 49 (0, 0))
  tn : wB.heap.size ≤ T
  pn : ∀ i, i < 4 → wB.heap.size ≤ p i
  rn : ∀ i, i < 4 → wB.heap.size ≤ r i
  pd : ∀ i j, i < 4 → j < 4 → i ≠ j → p i ≠ p j
  rd : ∀ i j, i < 4 → j < 4 → i ≠ j → r i ≠ r j
  pv : ∀ i, i < 4 → Ho w (p i) (v i)
  rv : ∀ i, i < 4 → ∃ s, Dk w (r i) (rvO (v i) (ts i)) s
  iv : ∀ i, i < 4 → Iv (v i)
  kd : ∀ i, i < 4 → (v i).kd = k
  rl : ∀ i, i < 4 → Rl (v i) (ts i)
  nh : Nw wB w 29 1 sH (svs H)
  hn : sH.n = H.length
  nl : Nw wB w 46 1 sL (svs L)
  ln : sL.n = L.length
  hd : ∀ i x, H[i]? = some x → RdT w x.p 5 (byts (List.replicate x.n (mkN (i / 2)))) ∧ ∀ P o, x.p = some ⟨P, o, none⟩ → h P
  ld : ∀ i x, L[i]? = some x → ∀ j, j < x.n → ∃ P o cur m q c, x.p = some ⟨P, o, none⟩ ∧ h P ∧ w.heap[P]? = some (.cells cur 29 m) ∧ w.cell? ⟨P, o + j, none⟩ = some (.slice q (i + 1) c)
  hh : ∀ P, h P → wB.heap.size ≤ P ∧ (∃ cur m, w.heap[P]? = some (.cells cur 5 m) ∨ w.heap[P]? = some (.cells cur 29 m)) ∧ sH.v.ownBlock ≠ some P
  ev : ∃ q, H.length = 2 * q
/-- a block that nobody counts on -/
def Fr (w : World) (sH : Sl) (h : Nat → Prop) (P : Nat) : Prop := (∃ cur m, w.heap[P]? = some (.cells cur 5 m) ∨ w.heap[P]? = some (.cells cur 29 m)) ∧ ¬ h P ∧ sH.v.ownBlock ≠ some P
theorem Fr.ne {w : World} {sH : Sl} {h : Nat → Prop} {P : Nat} (f : Fr w sH h P) {t : Nat} (h5 : t ≠ 5) (h29 : t ≠ 29) (cur : Array Value) (m : Nat × Nat) : w.heap[P]? ≠ some (.cells cur t m) := by
  intro e
  obtain ⟨⟨cu, m', hc | hc⟩, -⟩ := f
  · rw [hc] at e; simp only [Option.some.injEq, Obj.cells.injEq] at e; exact h5 e.2.1.symm
  · rw [hc] at e; simp only [Option.some.injEq, Obj.cells.injEq] at e; exact h29 e.2.1.symm
theorem Ho.keptX {w w' : World} {V : Nat} {v : Vl} {X : List Nat} (h : Ho w V v) (a : Apart X w w') (h71 : V ∉ X) (hX : ∀ k ∈ X, ∀ cur m, w.heap[k]? ≠ some (.cells cur 141 m)) : Ho w' V v := by
  have kB : ∀ {b : Value}, Bd w V b → Bd w' V b := fun {b} hb => (a.block V (lt_of_heap hb) h71).trans hb
  cases v using Vl.el with
  | cnt u d => exact kB h
  | set c es => obtain ⟨s, h1, h2⟩ := h; exact ⟨s, kB h1, h2.kept a hX⟩
  | flg c g => exact kB h
  | rgs s x t => exact kB h
theorem Nw.keptX {w0 w w' : World} {e size : Nat} {s : Sl} {us : List Value} {X : List Nat} (h : Nw w0 w e size s us) (a : Apart X w w') (hX : ∀ k, s.v.ownBlock = some k → k ∉ X) (ap : Apart [] w0 w') : Nw w0 w' e size s us := ⟨own_apart h.own a hX, h.new, ap⟩
variable {wB w w' : World} {T k : Nat} {p r : Nat → Nat} {v : Nat → Vl} {ts : Nat → List Tg} {H L : List Sl} {sH sL : Sl} {h : Nat → Prop}
theorem Tb.ap (t : Tb wB w T k p r v ts H L sH sL h) : Apart [] wB w := t.nh.ap
theorem Tb.bdP (t : Tb wB w T k p r v ts H L sH sL h) {i : Nat} (hi : i < 4) : ∃ b, w.heap[p i]? = some (.cells #[b] 71 (0, 0)) := by
  obtain ⟨b, hb⟩ := (t.pv i hi).bd
  exact ⟨b, hb⟩
/-- what changed is of no account -/
theorem Tb.kept {X : List Nat} (t : Tb wB w T k p r v ts H L sH sL h) (a : Apart X w w') (hX : ∀ P ∈ X, Fr w sH h P ∧ wB.heap.size ≤ P) : Tb wB w' T k p r v ts H L sH sL h := by
  have hne : ∀ {P : Nat} {cur : Array Value} {t : Nat} {m : Nat × Nat}, w.heap[P]? = some (.cells cur t m) → t ≠ 5 → t ≠ 29 → P ∉ X := fun {P cur t m} e h5 h29 hm => (hX P hm).1.ne h5 h29 cur m e
  have hap : Apart [] wB w' := t.ap.trans' a (fun y hy => .inr (hX y hy).2)
  have hb : ∀ {P : Nat} {cur : Array Value} {m : Nat × Nat} {ty : Nat}, h P → w.heap[P]? = some (.cells cur ty m) → w'.heap[P]? = some (.cells cur ty m) := fun {P cur m ty} hp e => (a.block P (lt_of_heapM e) (fun hm => (hX P hm).1.2.1 hp)).trans e
  have hc : ∀ {P o : Nat} {cur : Array Value} {m : Nat × Nat} {ty : Nat}, h P → w.heap[P]? = some (.cells cur ty m) → w'.cell? ⟨P, o, none⟩ = w.cell? ⟨P, o, none⟩ := fun {P o cur m ty} hp e => a.cell (lt_of_heapM e) (fun hm => (hX P hm).1.2.1 hp)
  refine ⟨(a.block T (lt_of_heap t.blk) (hne t.blk (by decide) (by decide))).trans t.blk, t.tn, t.pn, t.rn, t.pd, t.rd, fun i hi => ?_, fun i hi => ?_, t.iv, t.kd, t.rl, ?_, t.hn, ?_, t.ln, fun i x hx => ?_, fun i x hx j hj => ?_, fun P hP => ?_, t.ev⟩
  · obtain ⟨b, hb⟩ := t.bdP hi
    exact (t.pv i hi).keptX a (hne hb (by decide) (by decide)) (fun q hq cur m => (hX q hq).1.ne (by decide) (by decide) cur m)
  · obtain ⟨s, hs⟩ := t.rv i hi
    exact ⟨s, hs.other a (hne hs.dv.blk (by decide) (by decide)) (fun q hq cur m => (hX q hq).1.ne (by decide) (by decide) cur m)⟩
  · exact t.nh.keptX a (fun q hq hm => (hX q hm).1.2.2 hq) hap
  · exact t.nl.keptX a (fun q hq hm => by
      obtain ⟨cur, e⟩ := own_typ t.nl.own hq
      exact (hX q hm).1.ne (by decide) (by decide) cur (0, 0) e) hap
  · obtain ⟨h1, h2⟩ := t.hd i x hx
    refine ⟨fun h0 => ?_, h2⟩
    obtain ⟨P, o, e1, ⟨cur, m, e2⟩, e3⟩ := h1 h0
    have hP := h2 P o e1
    exact ⟨P, o, e1, ⟨cur, m, hb hP e2⟩, fun j u hj => (hc hP e2).trans (e3 j u hj)⟩
  · obtain ⟨P, o, cur, m, q, c, e1, e2, e3, e4⟩ := t.ld i x hx j hj
    exact ⟨P, o, cur, m, q, c, e1, e2, hb e2 e3, (hc e2 e3).trans e4⟩
  · obtain ⟨e1, ⟨cur, m, e2⟩, e3⟩ := t.hh P hP
    exact ⟨e1, ⟨cur, m, e2.imp (hb hP) (hb hP)⟩, e3⟩
theorem Tb.kept0 (t : Tb wB w T k p r v ts H L sH sL h) (a : Apart [] w w') : Tb wB w' T k p r v ts H L sH sL h := t.kept a (by simp)
/-- a value changed, or another one in its place -/
theorem Tb.next (t : Tb wB w T k p r v ts H L sH sL h) {i : Nat} (hi : i < 4) {p' r' : Nat} {v' : Vl} {ts' : List Tg} {s' : Sl} (a : Apart [p i, r i, T] w w') (hb : w'.heap[T]? = some (.cells (tbC k (upd p i p') (upd r i r') sH sL).toArray 49 (0, 0))) (hp : p' = p i ∨ w.heap.size ≤ p') (hr : r' = r i ∨ w.heap.size ≤ r') (hv : Ho w' p' v') (hd : Dk w' r' (rvO v' ts') s') (iv : Iv v') (rl : Rl v' ts') (kd : v'.kd = k) : Tb wB w' T k (upd p i p') (upd r i r') (upd v i v') (upd ts i ts') H L sH sL h := by
  obtain ⟨b0, hb0⟩ := t.bdP hi
  obtain ⟨s0, hs0⟩ := t.rv i hi
  have hX : ∀ P ∈ [p i, r i, T], (∃ cur, w.heap[P]? = some (.cells cur 71 (0, 0))) ∨ (∃ cur, w.heap[P]? = some (.cells cur 63 (0, 0))) ∨ ∃ cur, w.heap[P]? = some (.cells cur 49 (0, 0)) := fun P hP => by
    simp only [List.mem_cons, List.not_mem_nil, or_false] at hP
    rcases hP with rfl | rfl | rfl
    · exact .inl ⟨_, hb0⟩
    · exact .inr (.inl ⟨_, hs0.dv.blk⟩)
    · exact .inr (.inr ⟨_, t.blk⟩)
  have hne : ∀ {P : Nat} {cur : Array Value} {t : Nat} {m : Nat × Nat}, w.heap[P]? = some (.cells cur t m) → t ≠ 71 → t ≠ 63 → t ≠ 49 → P ∉ [p i, r i, T] := fun {P cur t m} e h1 h2 h3 hm => by
    rcases hX P hm with ⟨c, e'⟩ | ⟨c, e'⟩ | ⟨c, e'⟩
    all_goals
      rw [e'] at e
      simp only [Option.some.injEq, Obj.cells.injEq] at e
    · exact h1 e.2.1.symm
    · exact h2 e.2.1.symm
    · exact h3 e.2.1.symm
  have hXn : ∀ {ty : Nat}, ty ≠ 71 → ty ≠ 63 → ty ≠ 49 → ∀ q ∈ [p i, r i, T], ∀ cur m, w.heap[q]? ≠ some (.cells cur ty m) := fun {ty} h1 h2 h3 q hq cur m e => hne e h1 h2 h3 hq
  have hsz := t.ap.size
  have hap : Apart [] wB w' := t.ap.trans' a (fun y hy => by
    simp only [List.mem_cons, List.not_mem_nil, or_false] at hy
    rcases hy with rfl | rfl | rfl
    · exact .inr (t.pn i hi)
    · exact .inr (t.rn i hi)
    · exact .inr t.tn)
  have pne : ∀ j, j < 4 → j ≠ i → p j ∉ [p i, r i, T] ∧ p j ≠ p' := fun j hj hji => by
    obtain ⟨bj, hbj⟩ := t.bdP hj
    refine ⟨fun hm => ?_, fun e => ?_⟩
    · simp only [List.mem_cons, List.not_mem_nil, or_false] at hm
      rcases hm with e | e | e
      · exact t.pd j i hj hi hji e
      · rw [e, hs0.dv.blk] at hbj; simp at hbj
      · rw [e, t.blk] at hbj; simp at hbj
    · rcases hp with hp | hp
      · exact t.pd j i hj hi hji (e.trans hp)
      · have := lt_of_heap hbj
        omega
  have rne : ∀ j, j < 4 → j ≠ i → r j ∉ [p i, r i, T] ∧ r j ≠ r' := fun j hj hji => by
    obtain ⟨sj, hsj⟩ := t.rv j hj
    refine ⟨fun hm => ?_, fun e => ?_⟩
    · simp only [List.mem_cons, List.not_mem_nil, or_false] at hm
      have hbj := hsj.dv.blk
      rcases hm with e | e | e
      · rw [e, hb0] at hbj; simp at hbj
      · exact t.rd j i hj hi hji e
      · rw [e, t.blk] at hbj; simp at hbj
    · rcases hr with hr | hr
      · exact t.rd j i hj hi hji (e.trans hr)
      · have := lt_of_heap hsj.dv.blk
        omega
  have hnP : ∀ P, h P → P ∉ [p i, r i, T] := fun P hP => by
    obtain ⟨-, ⟨cur, m, e | e⟩, -⟩ := t.hh P hP
    · exact hne e (by decide) (by decide) (by decide)
    · exact hne e (by decide) (by decide) (by decide)
  have hbk : ∀ {P : Nat} {cur : Array Value} {m : Nat × Nat} {ty : Nat}, h P → w.heap[P]? = some (.cells cur ty m) → w'.heap[P]? = some (.cells cur ty m) := fun {P cur m ty} hp e => (a.block P (lt_of_heapM e) (hnP P hp)).trans e
  have hc : ∀ {P o : Nat} {cur : Array Value} {m : Nat × Nat} {ty : Nat}, h P → w.heap[P]? = some (.cells cur ty m) → w'.cell? ⟨P, o, none⟩ = w.cell? ⟨P, o, none⟩ := fun {P o cur m ty} hp e => a.cell (lt_of_heapM e) (hnP P hp)
  refine ⟨hb, t.tn, fun j hj => ?_, fun j hj => ?_, fun j l hj hl hjl => ?_, fun j l hj hl hjl => ?_, fun j hj => ?_, fun j hj => ?_, fun j hj => ?_, fun j hj => ?_, fun j hj => ?_, ?_, t.hn, ?_, t.ln, fun j x hx => ?_, fun j x hx q hq => ?_, fun P hP => ?_, t.ev⟩
  · by_cases e : j = i
    · subst e; rw [upd_same]
      rcases hp with hp | hp
      · rw [hp]; exact t.pn _ hi
      · omega
    · rw [upd_other _ _ e]; exact t.pn j hj
  · by_cases e : j = i
    · subst e; rw [upd_same]
      rcases hr with hr | hr
      · rw [hr]; exact t.rn _ hi
      · omega
    · rw [upd_other _ _ e]; exact t.rn j hj
  · by_cases e : j = i
    · subst e
      rw [upd_same, upd_other _ _ (fun e => hjl e.symm)]
      exact fun e => (pne l hl (fun e => hjl e.symm)).2 e.symm
    · rw [upd_other _ _ e]
      by_cases e2 : l = i
      · subst e2
        rw [upd_same]
        exact (pne j hj e).2
      · rw [upd_other _ _ e2]; exact t.pd j l hj hl hjl
  · by_cases e : j = i
    · subst e
      rw [upd_same, upd_other _ _ (fun e => hjl e.symm)]
      exact fun e => (rne l hl (fun e => hjl e.symm)).2 e.symm
    · rw [upd_other _ _ e]
      by_cases e2 : l = i
      · subst e2
        rw [upd_same]
        exact (rne j hj e).2
      · rw [upd_other _ _ e2]; exact t.rd j l hj hl hjl
  · by_cases e : j = i
    · subst e; rw [upd_same, upd_same]; exact hv
    · rw [upd_other _ _ e, upd_other _ _ e]
      exact (t.pv j hj).keptX a (pne j hj e).1 (hXn (by decide) (by decide) (by decide))
  · by_cases e : j = i
    · subst e; rw [upd_same, upd_same, upd_same]; exact ⟨s', hd⟩
    · rw [upd_other _ _ e, upd_other _ _ e, upd_other _ _ e]
      obtain ⟨s, hs⟩ := t.rv j hj
      exact ⟨s, hs.other a (rne j hj e).1 (hXn (by decide) (by decide) (by decide))⟩
  · by_cases e : j = i
    · subst e; rw [upd_same]; exact iv
    · rw [upd_other _ _ e]; exact t.iv j hj
  · by_cases e : j = i
    · subst e; rw [upd_same]; exact kd
    · rw [upd_other _ _ e]; exact t.kd j hj
  · by_cases e : j = i
    · subst e; rw [upd_same, upd_same]; exact rl
    · rw [upd_other _ _ e, upd_other _ _ e]; exact t.rl j hj
  · exact t.nh.keptX a (fun q hq hm => by
      obtain ⟨cur, e⟩ := own_typ t.nh.own hq
      exact hne e (by decide) (by decide) (by decide) hm) hap
  · exact t.nl.keptX a (fun q hq hm => by
      obtain ⟨cur, e⟩ := own_typ t.nl.own hq
      exact hne e (by decide) (by decide) (by decide) hm) hap
  · obtain ⟨h1, h2⟩ := t.hd j x hx
    refine ⟨fun h0 => ?_, h2⟩
    obtain ⟨P, o, e1, ⟨cur, m, e2⟩, e3⟩ := h1 h0
    have hP := h2 P o e1
    exact ⟨P, o, e1, ⟨cur, m, hbk hP e2⟩, fun q u hq => (hc hP e2).trans (e3 q u hq)⟩
  · obtain ⟨P, o, cur, m, q', c, e1, e2, e3, e4⟩ := t.ld j x hx q hq
    exact ⟨P, o, cur, m, q', c, e1, e2, hbk e2 e3, (hc e2 e3).trans e4⟩
  · obtain ⟨e1, ⟨cur, m, e2⟩, e3⟩ := t.hh P hP
    exact ⟨e1, ⟨cur, m, e2.imp (hbk hP) (hbk hP)⟩, e3⟩
theorem tb_p (k : Nat) (p r : Nat → Value) (sH sL : Sl) {i : Nat} (hi : i < 4) : (tbG k p r sH sL)[1 + i]? = some (p i) := by
  obtain rfl | rfl | rfl | rfl : i = 0 ∨ i = 1 ∨ i = 2 ∨ i = 3 := by omega
  all_goals rfl
theorem tb_r (k : Nat) (p r : Nat → Value) (sH sL : Sl) {i : Nat} (hi : i < 4) : (tbG k p r sH sL)[5 + i]? = some (r i) := by
  obtain rfl | rfl | rfl | rfl : i = 0 ∨ i = 1 ∨ i = 2 ∨ i = 3 := by omega
  all_goals rfl
theorem Tb.cp (t : Tb wB w T k p r v ts H L sH sL h) {i : Nat} (hi : i < 4) : w.cell? ⟨T, 1 + i, none⟩ = some (.pointer (some ⟨p i, 0, none⟩)) := dcell t.blk (tb_p _ _ _ _ _ hi)
theorem Tb.cr (t : Tb wB w T k p r v ts H L sH sL h) {i : Nat} (hi : i < 4) : w.cell? ⟨T, 5 + i, none⟩ = some (.pointer (some ⟨r i, 0, none⟩)) := dcell t.blk (tb_r _ _ _ _ _ hi)
theorem Tb.ch (t : Tb wB w T k p r v ts H L sH sL h) : w.cell? ⟨T, 9, none⟩ = some (.slice sH.p sH.n sH.c) := dcell t.blk rfl
theorem Tb.cl (t : Tb wB w T k p r v ts H L sH sL h) : w.cell? ⟨T, 10, none⟩ = some (.slice sL.p sL.n sL.c) := dcell t.blk rfl
end Go.Proofs.YtdbeeikjngnnnaaGreat.ty
namespace Go.Proofs.YtdbeeikjngnnnaaGreat.ty
open Go.ChangeShapes Go.WideShapes Go.ChangeAt Go.RowKit
set_option linter.unusedVariables false
set_option linter.unusedSimpArgs false
theorem Ss.tk {w w' : World} {s : Sl} {l : List ByteArray} (h : Ss w s l) (k : TK [5] w w') : Ss w' s l := ⟨h.rd.tk k (by decide), h.len, h.cap, h.ok⟩
set_option maxHeartbeats 4000000 in
set_option maxRecDepth 100000 in
/-- a set's form -/
theorem dform_set {w : World} {O : Nat} {r : Rv} {s : Sl} (h : Dk w O r s) (hk : r.k = 2) (hl : r.ts.length ≤ 10000) (hc : Sm r.c) {es : List En} (he : elsT r.ts [] = es.map fun x => x.e) (hn : es.length ≤ 500) (hz : ∀ x ∈ es, x.e.size ≤ 1000) (hb : ∀ x ∈ es, Tr r.ts x.e x.t) : Calls Tryz.prog 44 #[.pointer (some ⟨O, 0, none⟩)] w fun x w' => ∃ s', x = .returned (.slice s'.p s'.n s'.c) ∧ Bf w w' s' (setB r.c es) := by
  have HB1 := hid (Bf.one w 2)
  obtain ⟨w1, Hw1⟩ : ∃ W, Hid (W = w.alloc (.cells #[.int .u8 2] 5)) := ⟨_, hid rfl⟩
  have e0 : (w.alloc (.cells #[.int .u8 ((2 : Nat) : Int)] 5)) = w1 := by rw [Hw1.out]; rfl
  rw [e0] at HB1
  clear e0
  have HD1 : Hid (Dk w1 O r s) := hid (h.kept0 (by rw [Hw1.out]; exact (Apart.refl [] w).alloc _))
  have zk : w.cell? ⟨O, 0, none⟩ = some (.int .i64 2) := by rw [h.dv.kind, hk]; rfl
  have zk1 : w1.cell? ⟨O, 0, none⟩ = some (.int .i64 2) := by rw [HD1.out.dv.kind, hk]; rfl
  have HR := hid (fun (W : World) => drow_ok (w := W) hc zr_sm (size := 2) (by omega) false)
  have HE := hid (fun (W : World) (hW : Dk W O r s) => dels_ok (w := W) hW.dv hk hl)
  have HT := hid (fun (W : World) (hW : Dk W O r s) (x : En) (hx : x ∈ es) => tags_ok (w := W) hW.dv (by omega) (hb x hx))
  have Hlu : Hid ((rv r.u).length = 8) := hid (by rw [rv_len]; exact h.dv.lu)
  have Hld : Hid ((rv r.d).length = 8) := hid (by rw [rv_len]; exact h.dv.ld)
  have Hlc : Hid ((rv r.c).length = 8) := hid (by rw [rv_len]; exact h.dv.lc)
  have He := hid he
  have Hn := hid hn
  have Hz := hid hz
  clear h hk hl hc hb he hn hz
  obtain ⟨A, HA⟩ : ∃ A, Hid (A = w.heap.size) := ⟨_, hid rfl⟩
  rw [← HA.out] at HB1
  go_enter Tryz.func44, Tryz.ntmps44
  go_upto_region 2 with fail
  rw [← HA.out, ← Hw1.out]
  clear zk Hw1 HA
  go_upto_region 7 with (first
    | refine wpL_val rfl (.agg (rv r.c).toArray) (ex_load60 _ rfl O 17 _ rfl (bgC HD1.out.dv.blk Hlu.out Hld.out) Hlc.out) ?_
    | refine wpL_val rfl (.agg (rv zr).toArray) (ex_build60 rfl) ?_
    | (go_at_call 58
       refine (HR.out w1).mono ?_
       rintro _ w3 ⟨s3, rfl, b3⟩
       obtain ⟨s4, w4, hrun, b4, t4⟩ := app_bs (HB1.out.kept b3.nw.ap) b3.nw.rd b3.len b3.nw.ok (by have := rowD_len r.c zr 2 false (by omega); simp only [List.length_cons, List.length_nil]; omega)
       have HRR := hid hrun
       have HB4 := hid b4
       have HD4 := hid ((HD1.out.kept0 b3.nw.ap).tk t4)
       clear hrun b4 t4 b3)
    | (at_builtin; refine wpList_app2 rfl _ _ 29 29 rfl _ _ rfl rfl (.slice s4.p s4.n s4.c) w4 HRR.out ?_))
  clear HRR HB1 HD1 zk1
  have HC4 : Hid (Bf w w4 s4 (2 :: rowB r.c 2)) := hid (by have h1 := HB4.out; rw [rowD_one] at h1; exact h1)
  clear HB4
  go_upto_region 8 with (
    go_at_call 32
    refine (HE.out w4 HD4.out).mono ?_
    rintro _ w5 ⟨s5, rfl, a5, b5⟩
    rw [He.out] at b5
    have HS5 := hid b5
    have HD5 := hid (HD4.out.kept0 a5)
    have HB5 := hid (HC4.out.kept a5)
    clear a5 b5)
  have HN5 : Hid (s5.n = es.length) := hid (by rw [HS5.out.len, List.length_map])
  clear HC4 HD4
  obtain ⟨s6, w6, hrun, b6, t6⟩ := app_byte HB5.out (s5.n % 256) (by have := rowB_len r.c; simp only [List.length_cons]; omega)
  have HR6 := hid hrun
  have HB6 : Hid (Bf w w6 s6 (2 :: (rowB r.c 2 ++ (es.length % 256) :: esB (es.take 0)))) := hid (by
    have h1 := b6
    rw [HN5.out] at h1
    simpa [esB] using h1)
  have HS6 := hid (HS5.out.tk t6)
  have HD6 := hid (HD5.out.tk t6)
  clear hrun b6 t6 HS5 HD5
  go_upto_region 9 with (refine wpList_append3 rfl _ _ 29 rfl _ _ rfl rfl (.slice s6.p s6.n s6.c) w6 HR6.out ?_)
  clear HR6 HB5
  obtain ⟨N, HN⟩ : ∃ N, Hid (N = s5.n) := ⟨_, hid rfl⟩
  have hN5 : N ≤ 500 := by have h1 := HN.out; have h2 := HN5.out; have h3 := Hn.out; omega
  go_wp2_with fail
  go_loopw [3, 5] (fun v3 v5 wt => ∃ (i : Nat) (so : Sl), v3 = .slice so.p so.n so.c ∧ v5 = .int .i64 (i : Int) ∧ i ≤ N ∧ Hid (Bf w wt so (2 :: (rowB r.c 2 ++ (es.length % 256) :: esB (es.take i)))) ∧ Hid (Ss wt s5 (es.map fun x => x.e)) ∧ Hid (Dk wt O r s)) (fun _ v5 _ => N - natV v5)
  case atStart => exact ⟨0, s6, rfl, rfl, Nat.zero_le _, HB6, HS6, HD6⟩
  case round =>
    clear HB6 HS6 HD6
    obtain ⟨i, so, rfl, rfl, hi, HB, HS, HD⟩ := hrel
    generalize wr = wt at *
    by_cases hlt : i < N
    · have hlti : ((i : Nat) : Int) < ((s5.n : Nat) : Int) := by have := HN.out; omega
      have Hil : Hid (i < es.length) := hid (by have := HN.out; have := HN5.out; omega)
      obtain ⟨x, Hx⟩ : ∃ x, Hid (x = es[i]'Hil.out) := ⟨_, hid rfl⟩
      have Hxm : Hid (x ∈ es) := hid (by rw [Hx.out]; exact List.getElem_mem _)
      have Hxe : Hid ((es.map fun x => x.e)[i]'(by rw [List.length_map]; exact Hil.out) = x.e) := hid (by rw [Hx.out, List.getElem_map])
      have Hst : Hid (esB (es.take (i + 1)) = esB (es.take i) ++ ((x.e.size % 256) :: (bsk x.e ++ rowB x.t 2))) := hid (by rw [esB_take Hil.out, ← Hx.out]; rfl)
      have Hln : Hid ((2 :: (rowB r.c 2 ++ (es.length % 256) :: esB (es.take i))).length ≤ 520000) := hid (by
        have h1 := esB_take_len Hz.out i
        have h2 := rowB_len r.c
        have h3 := Hn.out
        simp only [List.length_cons, List.length_append]
        omega)
      have Hsz : Hid (x.e.size ≤ 1000) := hid (Hz.out x Hxm.out)
      obtain ⟨y, Hy⟩ : ∃ y, Hid (y = x.e) := ⟨_, hid rfl⟩
      rw [← Hy.out] at Hxe Hst Hsz
      -- the length
      obtain ⟨P, o, hp, hP, zj⟩ := HS.out.at (j := i) (by rw [List.length_map]; exact Hil.out)
      rw [Hxe.out] at zj
      have HP := hid hp
      clear hp hP
      obtain ⟨s1, w1, hrun1, b1, t1⟩ := app_byte HB.out (y.size % 256) (by have := Hln.out; omega)
      have HR1 := hid hrun1
      have HB1 := hid b1
      have HS1 := hid (HS.out.tk t1)
      have HD1 := hid (HD.out.tk t1)
      obtain ⟨P1, o1, hp1, hP1, zj1⟩ := HS1.out.at (j := i) (by rw [List.length_map]; exact Hil.out)
      rw [Hxe.out] at zj1
      have HP1 := hid hp1
      clear hp1 hP1 hrun1 b1 t1
      obtain ⟨s2, w2, hrun2, b2, t2⟩ := app_str HB1.out y (by have h1 := Hln.out; have h2 := Hsz.out; rw [List.length_append, show ([y.size % 256] : List Nat).length = 1 from rfl]; omega)
      have HR2 := hid hrun2
      have HB2 := hid b2
      have HS2 := hid (HS1.out.tk t2)
      have HD2 := hid (HD1.out.tk t2)
      obtain ⟨P2, o2, hp2, hP2, zj2⟩ := HS2.out.at (j := i) (by rw [List.length_map]; exact Hil.out)
      rw [Hxe.out] at zj2
      have HP2 := hid hp2
      clear hp2 hP2 hrun2 b2 t2
      have hsp : s5.p = some ⟨P, o, none⟩ := HP.out
      obtain ⟨rfl, rfl⟩ : P1 = P ∧ o1 = o := by
        have h1 := HP1.out; rw [HP.out] at h1; simpa using h1.symm
      obtain ⟨rfl, rfl⟩ : P2 = P1 ∧ o2 = o1 := by
        have h1 := HP2.out; rw [HP.out] at h1; simpa using h1.symm
      have HSp := hid hsp
      clear hsp HP HP1 HP2
      rw [HSp.out]
      go_upto_region 13 with (refine wpList_append3 rfl _ _ 29 rfl _ _ rfl rfl (.slice s1.p s1.n s1.c) w1 HR1.out ?_)
      clear HR1 zj
      go_upto_region 14 with (at_builtin; refine wpList_app2 rfl _ _ 29 9 rfl _ _ rfl rfl (.slice s2.p s2.n s2.c) w2 HR2.out ?_)
      clear HR2 zj1
      go_wp2_with (first
        | (go_at_call 59
           have hT := HT.out w2 HD2.out x Hxm.out
           rw [← Hy.out] at hT
           refine hT.mono ?_
           rintro _ w3 ⟨s3, rfl, b3⟩
           obtain ⟨s4, w4, hrun, b4, t4⟩ := app_bs (HB2.out.kept b3.nw.ap) b3.nw.rd b3.len b3.nw.ok (by
             have h1 := Hln.out
             have h2 := Hsz.out
             have h3 := rowD_len x.t zr 2 false (by omega)
             have h4 := bsk_len y
             simp only [List.length_append, List.length_cons, List.length_nil] at h1 ⊢
             omega)
           have HRR := hid hrun
           have HB4 := hid b4
           have HS4 := hid ((HS2.out.kept0 b3.nw.ap).tk t4)
           have HD4 := hid ((HD2.out.kept0 b3.nw.ap).tk t4)
           clear hrun b4 t4 b3)
        | (at_builtin; refine wpList_app2 rfl _ _ 29 29 rfl _ _ rfl rfl (.slice s4.p s4.n s4.c) w4 HRR.out ?_))
      exact ⟨⟨i + 1, s4, rfl, by go_num, by omega, hid (by
        have h1 := HB4.out
        rw [rowD_one] at h1
        rw [Hst.out]
        simpa [List.append_assoc] using h1), HS4, HD4⟩, by simp [natV]; omega⟩
    · have hlti : ¬ ((i : Nat) : Int) < ((s5.n : Nat) : Int) := by have := HN.out; omega
      have Hie : Hid (es.take i = es) := hid (List.take_of_length_le (by have := HN.out; have := HN5.out; omega))
      rw [Hie.out] at HB
      go_wp2_with fail
      go_ret
      exact ⟨so, rfl, HB.out⟩
end Go.Proofs.YtdbeeikjngnnnaaGreat.ty
