import Derived.Test.YtdbeeikjngnnnaaGreatChecked
import Derived.WalkKit
import Derived.ProofKit
import Derived.OpenShut
import Derived.Deep.QuietTactic
import Derived.BigQuiet
import Derived.BigRegion
import Derived.Laws.CopyOwn
import Derived.Laws.IdiomCopy
import Derived.WalkSmall
import Derived.Laws.ResultCell
import Derived.Laws.AppendOwnNone
import Derived.Deep.RegionHeld
import Derived.Deep.DeepAppendRoom
import Derived.Great.BuildSlice
import Derived.Deep.CutBlock
import Derived.Deep.RegionLaw
import Derived.ArgAppend
import Derived.Laws.Strings
import Derived.Laws.StructEq
import Derived.Below
import Derived.Deep.MidRow
import Derived.Great.Ranges
import Derived.Deep.RegionHeld3
import Derived.Laws.NewBlocks
import Derived.OrdersHeld
import Derived.Stop.BytesEq
import Derived.Laws.BytesString
import Derived.Lib.ConvBytes
import Derived.Laws.BitsAllLaws
import Derived.WalkLawsBesides
import Derived.Lib.Bytealg
import Derived.Laws.Externs
import Derived.Lib.SliceRun
import Derived.Lib.AppendZerosOnto
import Derived.Lib.AppendStr
import Derived.Lib.SlBytesConst
import Derived.Sort.Walk0
import Derived.Laws.Cover1
import Derived.Lib.Strings
import Derived.Lib.MinMaxS
import GoSem.Claim
import GoSem.ClaimJoined
import GoSem.ClaimMapViews
import Derived.JoinedTies
import Derived.KernelRfl
import Derived.JoinedCond
import Derived.ShutString
import Derived.ChangeOld
import Derived.Carry
import Derived.ChangeSlices
import Derived.Deep.Slices
import Derived.Deep.DeepHandedRow
import Derived.RowKit
import Derived.ChangeShapes
import Derived.SizedLaws
import Derived.ChangeMaps5
import Derived.Sort.WalkA
import Derived.Test.YtdbeeikjngnnnaaGreatRows
import Derived.Test.YtdbeeikjngnnnaaGreatV22
namespace Go.Proofs.YtdbeeikjngnnnaaGreat.ty
open Go.ChangeShapes Go.WideShapes Go.ChangeAt Go.RowKit
set_option linter.unusedVariables false
set_option linter.unusedSimpArgs false
theorem ex_idx29 {W : World} {eval : Operand → Value} {op : Oper} {p : Option Addr} {n c q : Nat} (x y : Operand) (P : Nat) (ho : op.op = .indexAddr 29 x y) (hx : eval x = .slice p n c) (hp : p = some ⟨P, 0, none⟩) (hy : eval y = .int .i64 (q : Int)) (hq : q < n) : (execOp eval op).run Tryz.prog W = .ok (.value (.pointer (some ⟨P, q, none⟩))) W := by
  subst hp
  unfold execOp
  simp only [ho, hx, hy]
  have hq2 : ((q : Nat) : Int) < ((n : Nat) : Int) := by omega
  go_simp
theorem info29 : (Tryz.prog.info? 29).map (fun i => (i.zero, i.size, i.bytes)) = some (some (.slice none 0 0), 1, 24) := by kernel_rfl
theorem svs_one {l : List Sl} : ∀ u ∈ svs l, u.oneCell' = true := by
  intro u hu
  simp only [svs, List.mem_map] at hu
  obtain ⟨x, _, rfl⟩ := hu
  rfl
theorem svs_app (a b : List Sl) : svs (a ++ b) = svs a ++ svs b := by simp [svs]
variable {wB w w' w2 : World} {T k : Nat} {p r : Nat → Nat} {v : Nat → Vl} {ts : Nat → List Tg} {H L : List Sl} {sH sL : Sl} {h : Nat → Prop}
theorem Tb.pushH {b far sN : Sl} (t : Tb wB w T k p r v ts H L sH sL h) (a2 : Apart sH.v.ownBlock.toList w w2) (n : Nw wB w2 29 1 sN (svs (H ++ [b, far]))) (hl : sN.n = H.length + 2) (hNw : ∀ P, sN.v.ownBlock = some P → sH.v.ownBlock = some P ∨ w.heap.size ≤ P) (hb : RdT w b.p 5 (byts (List.replicate b.n (mkN (H.length / 2))))) (hf : RdT w far.p 5 (byts (List.replicate far.n (mkN (H.length / 2))))) (eb : ∀ P, b.v.ownBlock = some P → wB.heap.size ≤ P ∧ ∃ cur m, w.heap[P]? = some (.cells cur 5 m)) (ef : ∀ P, far.v.ownBlock = some P → wB.heap.size ≤ P ∧ ∃ cur m, w.heap[P]? = some (.cells cur 5 m)) : Tb wB (w2.setCell ⟨T, 9, none⟩ (.slice sN.p sN.n sN.c)) T k p r v ts (H ++ [b, far]) L sN sL (fun P => h P ∨ b.v.ownBlock = some P ∨ far.v.ownBlock = some P) := by
  have a : Apart (T :: sH.v.ownBlock.toList) w (w2.setCell ⟨T, 9, none⟩ (.slice sN.p sN.n sN.c)) := (a2.mono (fun x hx => List.mem_cons_of_mem _ hx)).setCell (.inl (by simp)) _
  have hbk2 : w2.heap[T]? = some (.cells (tbC k p r sH sL).toArray 49 (0, 0)) := (a2.block T (lt_of_heap t.blk) (fun hm => by
    obtain ⟨cur, e⟩ := own_typ (t.nh).own (k := T) (by simpa using hm)
    rw [t.blk] at e
    simp at e)).trans t.blk
  have hblk : (w2.setCell ⟨T, 9, none⟩ (.slice sN.p sN.n sN.c)).heap[T]? = some (.cells (tbC k p r sN sL).toArray 49 (0, 0)) := by
    rw [heap_setCell_same w2 T 9 _ 49 _ hbk2, List.setIfInBounds_toArray]
    rfl
  have hap : Apart [] wB (w2.setCell ⟨T, 9, none⟩ (.slice sN.p sN.n sN.c)) := n.ap.setCell (.inr t.tn) _
  generalize hw' : w2.setCell ⟨T, 9, none⟩ (.slice sN.p sN.n sN.c) = w' at *
  have hX : ∀ P ∈ T :: sH.v.ownBlock.toList, (∃ cur, w.heap[P]? = some (.cells cur 49 (0, 0))) ∨ (∃ cur, w.heap[P]? = some (.cells cur 29 (0, 0)) ∧ sH.v.ownBlock = some P) := fun P hP => by
    rcases List.mem_cons.1 hP with rfl | hP
    · exact .inl ⟨_, t.blk⟩
    · have hP' : sH.v.ownBlock = some P := by simpa using hP
      obtain ⟨cur, e⟩ := own_typ (t.nh).own hP'
      exact .inr ⟨cur, e, hP'⟩
  have hne : ∀ {P : Nat} {cur : Array Value} {t : Nat} {m : Nat × Nat}, w.heap[P]? = some (.cells cur t m) → t ≠ 49 → t ≠ 29 → P ∉ T :: sH.v.ownBlock.toList := fun {P cur t m} e h1 h2 hm => by
    rcases hX P hm with ⟨c, e'⟩ | ⟨c, e', -⟩
    all_goals
      rw [e'] at e
      simp only [Option.some.injEq, Obj.cells.injEq] at e
    · exact h1 e.2.1.symm
    · exact h2 e.2.1.symm
  have hXn : ∀ {ty : Nat}, ty ≠ 49 → ty ≠ 29 → ∀ q ∈ T :: sH.v.ownBlock.toList, ∀ cur m, w.heap[q]? ≠ some (.cells cur ty m) := fun {ty} h1 h2 q hq cur m e => hne e h1 h2 hq
  have hnP : ∀ P, h P → P ∉ T :: sH.v.ownBlock.toList := fun P hP hm => by
    obtain ⟨-, ⟨cur, m, e⟩, e3⟩ := t.hh P hP
    rcases hX P hm with ⟨c, e'⟩ | ⟨c, e', q⟩
    · rw [e'] at e; simp at e
    · exact e3 q
  have hn5 : ∀ {P : Nat} {cur : Array Value} {m : Nat × Nat}, w.heap[P]? = some (.cells cur 5 m) → P ∉ T :: sH.v.ownBlock.toList := fun e => hne e (by decide) (by decide)
  have kB : ∀ {s : Sl} {us : List Value}, RdT w s.p 5 us → RdT w' s.p 5 us := fun {s us} hr => hr.kept a (hXn (by decide) (by decide))
  have hbk : ∀ {P : Nat} {cur : Array Value} {m : Nat × Nat} {ty : Nat}, h P → w.heap[P]? = some (.cells cur ty m) → w'.heap[P]? = some (.cells cur ty m) := fun {P cur m ty} hp e => (a.block P (lt_of_heapM e) (hnP P hp)).trans e
  have hc : ∀ {P o : Nat} {cur : Array Value} {m : Nat × Nat} {ty : Nat}, h P → w.heap[P]? = some (.cells cur ty m) → w'.cell? ⟨P, o, none⟩ = w.cell? ⟨P, o, none⟩ := fun {P o cur m ty} hp e => a.cell (lt_of_heapM e) (hnP P hp)
  have hsN : w'.ownsRow 0 29 1 sN.v sN.n (svs (H ++ [b, far])) := own_apart n.own (by rw [← hw']; exact (Apart.refl [T] w2).setCell (.inl (by simp)) _) (fun q hq hm => by
    obtain ⟨cur, e⟩ := own_typ n.own hq
    rw [List.mem_singleton.1 hm, hbk2] at e
    simp at e)
  have hNn : ∀ P, sN.v.ownBlock = some P → ∃ cur, w'.heap[P]? = some (.cells cur 29 (0, 0)) := fun P hP => own_typ hsN hP
  refine ⟨hblk, t.tn, t.pn, t.rn, t.pd, t.rd, fun i hi => ?_, fun i hi => ?_, t.iv, t.kd, t.rl, ⟨hsN, n.new, hap⟩, by rw [hl, List.length_append]; rfl, ?_, t.ln, fun i x hx => ?_, fun i x hx j hj => ?_, fun P hP => ?_, ?_⟩
  · obtain ⟨b0, hb0⟩ := t.bdP hi
    exact (t.pv i hi).keptX a (hne hb0 (by decide) (by decide)) (hXn (by decide) (by decide))
  · obtain ⟨s, hs⟩ := t.rv i hi
    exact ⟨s, hs.other a (hne hs.dv.blk (by decide) (by decide)) (hXn (by decide) (by decide))⟩
  · exact t.nl.keptX a (fun q hq => by
      obtain ⟨cur, e⟩ := own_typ t.nl.own hq
      exact hne e (by decide) (by decide)) hap
  · have old : ∀ {i : Nat}, H[i]? = some x → RdT w' x.p 5 (byts (List.replicate x.n (mkN (i / 2)))) ∧ ∀ P o, x.p = some ⟨P, o, none⟩ → (h P ∨ b.v.ownBlock = some P ∨ far.v.ownBlock = some P) := fun {i} hx => by
      obtain ⟨h1, h2⟩ := t.hd i x hx
      exact ⟨kB h1, fun P o e => .inl (h2 P o e)⟩
    by_cases hi : i < H.length
    · rw [List.getElem?_append_left hi] at hx
      exact old hx
    · rw [List.getElem?_append_right (by omega)] at hx
      obtain ⟨q, hq⟩ := t.ev
      obtain e | e : i - H.length = 0 ∨ i - H.length = 1 := by
        have := (List.getElem?_eq_some_iff.1 hx).1
        simp at this
        omega
      · rw [e] at hx
        obtain rfl : b = x := by simpa using hx
        have e2 : i / 2 = H.length / 2 := by omega
        rw [e2]
        exact ⟨kB hb, fun P o e => .inr (.inl (by rw [Sl.v, e]; rfl))⟩
      · rw [e] at hx
        obtain rfl : far = x := by simpa using hx
        have e2 : i / 2 = H.length / 2 := by omega
        rw [e2]
        exact ⟨kB hf, fun P o e => .inr (.inr (by rw [Sl.v, e]; rfl))⟩
  · obtain ⟨P, o, cur, m, q, c, e1, e2, e3, e4⟩ := t.ld i x hx j hj
    exact ⟨P, o, cur, m, q, c, e1, .inl e2, hbk e2 e3, (hc e2 e3).trans e4⟩
  · have new : ∀ {cur : Array Value} {m : Nat × Nat}, wB.heap.size ≤ P → w.heap[P]? = some (.cells cur 5 m) → wB.heap.size ≤ P ∧ (∃ cur m, w'.heap[P]? = some (.cells cur 5 m) ∨ w'.heap[P]? = some (.cells cur 29 m)) ∧ sN.v.ownBlock ≠ some P := fun {cur m} h1 e => by
      have e' := (a.block P (lt_of_heapM e) (hn5 e)).trans e
      refine ⟨h1, ⟨cur, m, .inl e'⟩, fun q => ?_⟩
      obtain ⟨c, e2⟩ := hNn P q
      rw [e'] at e2
      simp at e2
    rcases hP with hP | hP | hP
    · obtain ⟨e1, ⟨cur, m, e2⟩, e3⟩ := t.hh P hP
      refine ⟨e1, ⟨cur, m, e2.imp (hbk hP) (hbk hP)⟩, fun q => ?_⟩
      rcases hNw P q with q | q
      · exact e3 q
      · have : P < w.heap.size := e2.elim lt_of_heapM lt_of_heapM
        omega
    · obtain ⟨h1, cur, m, e⟩ := eb P hP
      exact new h1 e
    · obtain ⟨h1, cur, m, e⟩ := ef P hP
      exact new h1 e
  · obtain ⟨q, hq⟩ := t.ev
    exact ⟨q + 1, by rw [List.length_append, hq]; simp; omega⟩
end Go.Proofs.YtdbeeikjngnnnaaGreat.ty
