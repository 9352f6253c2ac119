import Derived.Test.YtdbeeikjngnnnaaGreatChecked
import Derived.WalkKit
import Derived.ProofKit
import Derived.OpenShut
import Derived.Deep.QuietTactic
import Derived.BigQuiet
import Derived.BigRegion
import Derived.Laws.CopyOwn
import Derived.Laws.IdiomCopy
import Derived.WalkSmall
import Derived.Laws.ResultCell
import Derived.Laws.AppendOwnNone
import Derived.Deep.RegionHeld
import Derived.Deep.DeepAppendRoom
import Derived.Great.BuildSlice
import Derived.Deep.CutBlock
import Derived.Deep.RegionLaw
import Derived.ArgAppend
import Derived.Laws.Strings
import Derived.Laws.StructEq
import Derived.Below
import Derived.Deep.MidRow
import Derived.Great.Ranges
import Derived.Deep.RegionHeld3
import Derived.Laws.NewBlocks
import Derived.OrdersHeld
import Derived.Stop.BytesEq
import Derived.Laws.BytesString
import Derived.Lib.ConvBytes
import Derived.Laws.BitsAllLaws
import Derived.WalkLawsBesides
import Derived.Lib.Bytealg
import Derived.Laws.Externs
import Derived.Lib.SliceRun
import Derived.Lib.AppendZerosOnto
import Derived.Lib.AppendStr
import Derived.Lib.SlBytesConst
import Derived.Sort.Walk0
import Derived.Laws.Cover1
import Derived.Lib.Strings
import Derived.Lib.MinMaxS
import GoSem.Claim
import GoSem.ClaimJoined
import GoSem.ClaimMapViews
import Derived.JoinedTies
import Derived.KernelRfl
import Derived.JoinedCond
import Derived.ShutString
import Derived.ChangeOld
import Derived.Carry
import Derived.ChangeSlices
import Derived.Deep.Slices
import Derived.Deep.DeepHandedRow
import Derived.RowKit
import Derived.ChangeShapes
import Derived.SizedLaws
import Derived.ChangeMaps5
import Derived.Sort.WalkA
import Derived.Test.YtdbeeikjngnnnaaGreatRows
import Derived.Test.YtdbeeikjngnnnaaGreatD26
import Derived.Test.YtdbeeikjngnnnaaGreatD27
namespace Go.Proofs.YtdbeeikjngnnnaaGreat.ty
open Go.ChangeShapes Go.WideShapes Go.ChangeAt Go.RowKit
set_option linter.unusedVariables false
set_option linter.unusedSimpArgs false
theorem ex_idx29 {W : World} {eval : Operand → Value} {op : Oper} {p : Option Addr} {n c q : Nat} (x y : Operand) (P : Nat) (ho : op.op = .indexAddr 29 x y) (hx : eval x = .slice p n c) (hp : p = some ⟨P, 0, none⟩) (hy : eval y = .int .i64 (q : Int)) (hq : q < n) : (execOp eval op).run Tryz.prog W = .ok (.value (.pointer (some ⟨P, q, none⟩))) W := by
  subst hp
  unfold execOp
  simp only [ho, hx, hy]
  have hq2 : ((q : Nat) : Int) < ((n : Nat) : Int) := by omega
  go_simp
theorem info29 : (Tryz.prog.info? 29).map (fun i => (i.zero, i.size, i.bytes)) = some (some (.slice none 0 0), 1, 24) := by kernel_rfl
theorem svs_one {l : List Sl} : ∀ u ∈ svs l, u.oneCell' = true := by
  intro u hu
  simp only [svs, List.mem_map] at hu
  obtain ⟨x, _, rfl⟩ := hu
  rfl
theorem svs_app (a b : List Sl) : svs (a ++ b) = svs a ++ svs b := by simp [svs]
variable {wB w w' w2 : World} {T k : Nat} {p r : Nat → Nat} {v : Nat → Vl} {ts : Nat → List Tg} {H L : List Sl} {sH sL : Sl} {h : Nat → Prop}
theorem Tb.pushH {b far sN : Sl} (t : Tb wB w T k p r v ts H L sH sL h) (a2 : Apart sH.v.ownBlock.toList w w2) (n : Nw wB w2 29 1 sN (svs (H ++ [b, far]))) (hl : sN.n = H.length + 2) (hNw : ∀ P, sN.v.ownBlock = some P → sH.v.ownBlock = some P ∨ w.heap.size ≤ P) (hb : RdT w b.p 5 (byts (List.replicate b.n (mkN (H.length / 2))))) (hf : RdT w far.p 5 (byts (List.replicate far.n (mkN (H.length / 2))))) (eb : ∀ P, b.v.ownBlock = some P → wB.heap.size ≤ P ∧ ∃ cur m, w.heap[P]? = some (.cells cur 5 m)) (ef : ∀ P, far.v.ownBlock = some P → wB.heap.size ≤ P ∧ ∃ cur m, w.heap[P]? = some (.cells cur 5 m)) : Tb wB (w2.setCell ⟨T, 9, none⟩ (.slice sN.p sN.n sN.c)) T k p r v ts (H ++ [b, far]) L sN sL (fun P => h P ∨ b.v.ownBlock = some P ∨ far.v.ownBlock = some P) := by
  have a : Apart (T :: sH.v.ownBlock.toList) w (w2.setCell ⟨T, 9, none⟩ (.slice sN.p sN.n sN.c)) := (a2.mono (fun x hx => List.mem_cons_of_mem _ hx)).setCell (.inl (by simp)) _
  have hbk2 : w2.heap[T]? = some (.cells (tbC k p r sH sL).toArray 49 (0, 0)) := (a2.block T (lt_of_heap t.blk) (fun hm => by
    obtain ⟨cur, e⟩ := own_typ (t.nh).own (k := T) (by simpa using hm)
    rw [t.blk] at e
    simp at e)).trans t.blk
  have hblk : (w2.setCell ⟨T, 9, none⟩ (.slice sN.p sN.n sN.c)).heap[T]? = some (.cells (tbC k p r sN sL).toArray 49 (0, 0)) := by
    rw [heap_setCell_same w2 T 9 _ 49 _ hbk2, List.setIfInBounds_toArray]
    rfl
  have hap : Apart [] wB (w2.setCell ⟨T, 9, none⟩ (.slice sN.p sN.n sN.c)) := n.ap.setCell (.inr t.tn) _
  generalize hw' : w2.setCell ⟨T, 9, none⟩ (.slice sN.p sN.n sN.c) = w' at *
  have hX : ∀ P ∈ T :: sH.v.ownBlock.toList, (∃ cur, w.heap[P]? = some (.cells cur 49 (0, 0))) ∨ (∃ cur, w.heap[P]? = some (.cells cur 29 (0, 0)) ∧ sH.v.ownBlock = some P) := fun P hP => by
    rcases List.mem_cons.1 hP with rfl | hP
    · exact .inl ⟨_, t.blk⟩
    · have hP' : sH.v.ownBlock = some P := by simpa using hP
      obtain ⟨cur, e⟩ := own_typ (t.nh).own hP'
      exact .inr ⟨cur, e, hP'⟩
  have hne : ∀ {P : Nat} {cur : Array Value} {t : Nat} {m : Nat × Nat}, w.heap[P]? = some (.cells cur t m) → t ≠ 49 → t ≠ 29 → P ∉ T :: sH.v.ownBlock.toList := fun {P cur t m} e h1 h2 hm => by
    rcases hX P hm with ⟨c, e'⟩ | ⟨c, e', -⟩
    all_goals
      rw [e'] at e
      simp only [Option.some.injEq, Obj.cells.injEq] at e
    · exact h1 e.2.1.symm
    · exact h2 e.2.1.symm
  have hXn : ∀ {ty : Nat}, ty ≠ 49 → ty ≠ 29 → ∀ q ∈ T :: sH.v.ownBlock.toList, ∀ cur m, w.heap[q]? ≠ some (.cells cur ty m) := fun {ty} h1 h2 q hq cur m e => hne e h1 h2 hq
  have hnP : ∀ P, h P → P ∉ T :: sH.v.ownBlock.toList := fun P hP hm => by
    obtain ⟨-, ⟨cur, m, e⟩, e3⟩ := t.hh P hP
    rcases hX P hm with ⟨c, e'⟩ | ⟨c, e', q⟩
    · rw [e'] at e; simp at e
    · exact e3 q
  have hn5 : ∀ {P : Nat} {cur : Array Value} {m : Nat × Nat}, w.heap[P]? = some (.cells cur 5 m) → P ∉ T :: sH.v.ownBlock.toList := fun e => hne e (by decide) (by decide)
  have kB : ∀ {s : Sl} {us : List Value}, RdT w s.p 5 us → RdT w' s.p 5 us := fun {s us} hr => hr.kept a (hXn (by decide) (by decide))
  have hbk : ∀ {P : Nat} {cur : Array Value} {m : Nat × Nat} {ty : Nat}, h P → w.heap[P]? = some (.cells cur ty m) → w'.heap[P]? = some (.cells cur ty m) := fun {P cur m ty} hp e => (a.block P (lt_of_heapM e) (hnP P hp)).trans e
  have hc : ∀ {P o : Nat} {cur : Array Value} {m : Nat × Nat} {ty : Nat}, h P → w.heap[P]? = some (.cells cur ty m) → w'.cell? ⟨P, o, none⟩ = w.cell? ⟨P, o, none⟩ := fun {P o cur m ty} hp e => a.cell (lt_of_heapM e) (hnP P hp)
  have hsN : w'.ownsRow 0 29 1 sN.v sN.n (svs (H ++ [b, far])) := own_apart n.own (by rw [← hw']; exact (Apart.refl [T] w2).setCell (.inl (by simp)) _) (fun q hq hm => by
    obtain ⟨cur, e⟩ := own_typ n.own hq
    rw [List.mem_singleton.1 hm, hbk2] at e
    simp at e)
  have hNn : ∀ P, sN.v.ownBlock = some P → ∃ cur, w'.heap[P]? = some (.cells cur 29 (0, 0)) := fun P hP => own_typ hsN hP
  refine ⟨hblk, t.tn, t.pn, t.rn, t.pd, t.rd, fun i hi => ?_, fun i hi => ?_, t.iv, t.kd, t.rl, ⟨hsN, n.new, hap⟩, by rw [hl, List.length_append]; rfl, ?_, t.ln, fun i x hx => ?_, fun i x hx j hj => ?_, fun P hP => ?_, ?_⟩
  · obtain ⟨b0, hb0⟩ := t.bdP hi
    exact (t.pv i hi).keptX a (hne hb0 (by decide) (by decide)) (hXn (by decide) (by decide))
  · obtain ⟨s, hs⟩ := t.rv i hi
    exact ⟨s, hs.other a (hne hs.dv.blk (by decide) (by decide)) (hXn (by decide) (by decide))⟩
  · exact t.nl.keptX a (fun q hq => by
      obtain ⟨cur, e⟩ := own_typ t.nl.own hq
      exact hne e (by decide) (by decide)) hap
  · have old : ∀ {i : Nat}, H[i]? = some x → RdT w' x.p 5 (byts (List.replicate x.n (mkN (i / 2)))) ∧ ∀ P o, x.p = some ⟨P, o, none⟩ → (h P ∨ b.v.ownBlock = some P ∨ far.v.ownBlock = some P) := fun {i} hx => by
      obtain ⟨h1, h2⟩ := t.hd i x hx
      exact ⟨kB h1, fun P o e => .inl (h2 P o e)⟩
    by_cases hi : i < H.length
    · rw [List.getElem?_append_left hi] at hx
      exact old hx
    · rw [List.getElem?_append_right (by omega)] at hx
      obtain ⟨q, hq⟩ := t.ev
      obtain e | e : i - H.length = 0 ∨ i - H.length = 1 := by
        have := (List.getElem?_eq_some_iff.1 hx).1
        simp at this
        omega
      · rw [e] at hx
        obtain rfl : b = x := by simpa using hx
        have e2 : i / 2 = H.length / 2 := by omega
        rw [e2]
        exact ⟨kB hb, fun P o e => .inr (.inl (by rw [Sl.v, e]; rfl))⟩
      · rw [e] at hx
        obtain rfl : far = x := by simpa using hx
        have e2 : i / 2 = H.length / 2 := by omega
        rw [e2]
        exact ⟨kB hf, fun P o e => .inr (.inr (by rw [Sl.v, e]; rfl))⟩
  · obtain ⟨P, o, cur, m, q, c, e1, e2, e3, e4⟩ := t.ld i x hx j hj
    exact ⟨P, o, cur, m, q, c, e1, .inl e2, hbk e2 e3, (hc e2 e3).trans e4⟩
  · have new : ∀ {cur : Array Value} {m : Nat × Nat}, wB.heap.size ≤ P → w.heap[P]? = some (.cells cur 5 m) → wB.heap.size ≤ P ∧ (∃ cur m, w'.heap[P]? = some (.cells cur 5 m) ∨ w'.heap[P]? = some (.cells cur 29 m)) ∧ sN.v.ownBlock ≠ some P := fun {cur m} h1 e => by
      have e' := (a.block P (lt_of_heapM e) (hn5 e)).trans e
      refine ⟨h1, ⟨cur, m, .inl e'⟩, fun q => ?_⟩
      obtain ⟨c, e2⟩ := hNn P q
      rw [e'] at e2
      simp at e2
    rcases hP with hP | hP | hP
    · obtain ⟨e1, ⟨cur, m, e2⟩, e3⟩ := t.hh P hP
      refine ⟨e1, ⟨cur, m, e2.imp (hbk hP) (hbk hP)⟩, fun q => ?_⟩
      rcases hNw P q with q | q
      · exact e3 q
      · have : P < w.heap.size := e2.elim lt_of_heapM lt_of_heapM
        omega
    · obtain ⟨h1, cur, m, e⟩ := eb P hP
      exact new h1 e
    · obtain ⟨h1, cur, m, e⟩ := ef P hP
      exact new h1 e
  · obtain ⟨q, hq⟩ := t.ev
    exact ⟨q + 1, by rw [List.length_append, hq]; simp; omega⟩
end Go.Proofs.YtdbeeikjngnnnaaGreat.ty
namespace Go.Proofs.YtdbeeikjngnnnaaGreat.ty
open Go.ChangeShapes Go.WideShapes Go.ChangeAt Go.RowKit
set_option linter.unusedVariables false
set_option linter.unusedSimpArgs false
variable {wB w w' w2 : World} {T k : Nat} {p r : Nat → Nat} {v : Nat → Vl} {ts : Nat → List Tg} {H L : List Sl} {sH sL : Sl} {h : Nat → Prop}
def lenS : Value → Nat
  | .slice _ n _ => n
  | _ => 0
theorem ownp {a b : Sl} (e : a.p = b.p) : a.v.ownBlock = b.v.ownBlock := by
  unfold Sl.v
  rw [e]
  cases b.p <;> rfl
/-- b and far while far grows -/
def HbP (w wt : World) (b far : Sl) (M : Nat) : Prop := RdT wt b.p 5 (byts (List.replicate b.n M)) ∧ Apart b.v.ownBlock.toList w wt ∧ (far.p = b.p ∨ ∃ g, far.p = some ⟨g, 0, none⟩ ∧ w.heap.size ≤ g ∧ b.v.ownBlock ≠ some g) ∧ ∀ P, b.v.ownBlock = some P → ∃ cur m, wt.heap[P]? = some (.cells cur 5 m)
/-- what keep leaves -/
structure KP (w w' : World) (T : Nat) (sH sH' b : Sl) (h h' : Nat → Prop) : Prop where
  ap : Apart (T :: (sH.v.ownBlock.toList ++ b.v.ownBlock.toList)) w w'
  hs : ∀ P, h' P → h P ∨ b.v.ownBlock = some P ∨ w.heap.size ≤ P
  own : ∀ P, sH'.v.ownBlock = some P → sH.v.ownBlock = some P ∨ w.heap.size ≤ P
theorem Wv.own {B : Nat} {w : World} {b : Sl} {i M : Nat} (h : Wv B w b i M) {P : Nat} (hP : b.v.ownBlock = some P) : b.p = some ⟨P, 0, none⟩ ∧ B ≤ P ∧ ∃ cur m, w.heap[P]? = some (.cells cur 5 m) := by
  rcases h with ⟨h1, -⟩ | ⟨g, cur, m, h1, h2, h3, -⟩
  · rw [Sl.v, h1] at hP; simp [Value.ownBlock] at hP
  · have e : b.v.ownBlock = some g := by rw [Sl.v, h1]; rfl
    rw [e] at hP
    obtain rfl : g = P := by simpa using hP
    exact ⟨h1, h2, cur, m, h3⟩
set_option maxHeartbeats 4000000 in
set_option maxRecDepth 100000 in
theorem keep_ok (t : Tb wB w T k p r v ts H L sH sL h) {b : Sl} (qb : Wq wB.heap.size w b) (nb : ∀ g, b.v.ownBlock = some g → ¬ h g ∧ sH.v.ownBlock ≠ some g) (hbn : b.n ≤ 100000) (hH : H.length ≤ 600000000) : Calls Tryz.prog 26 #[.pointer (some ⟨T, 0, none⟩), .slice b.p b.n b.c] w fun x w' => x = .returned (.tuple #[]) ∧ ∃ (far sH' : Sl) (h' : Nat → Prop), Tb wB w' T k p r v ts (H ++ [b, far]) L sH' sL h' ∧ KP w w' T sH sH' b h h' ∧ far.n ≤ b.n + 80 := by
  obtain ⟨q, hq⟩ := t.ev
  have z9 := t.ch
  have hsn : sH.n = 2 * q := by rw [t.hn, hq]
  rw [hsn] at z9
  have hq3 : q ≤ 300000000 := by omega
  obtain ⟨M, HM⟩ : ∃ M, Hid (M = q % 250 + 1) := ⟨_, hid rfl⟩
  have HMk : Hid (mkN (H.length / 2) = M) := hid (by rw [HM.out, hq, mkN]; congr 2; omega)
  have eM : ((q : Int) % 250 + 1) = (M : Int) := by rw [HM.out]; omega
  have HT := hid t
  have HV0 := hid (qb.wv M)
  have HV0x := hid (qb.wv M)
  have HNB := hid nb
  have HH := hid hH
  obtain ⟨n, Hn⟩ : ∃ n, Hid (n = b.n) := ⟨_, hid rfl⟩
  have hn1 : n ≤ 100000 := by rw [Hn.out]; exact hbn
  have HA0 : Hid (Apart b.v.ownBlock.toList w w) := hid (Apart.refl _ _)
  have HXb : Hid (∀ P ∈ b.v.ownBlock.toList, Fr w sH h P ∧ wB.heap.size ≤ P) := hid (fun P hP => by
    have hP' : b.v.ownBlock = some P := by simpa using hP
    obtain ⟨h1, h2, cur, m, h3⟩ := HV0.out.own hP'
    exact ⟨⟨⟨cur, m, .inl h3⟩, (nb P hP').1, (nb P hP').2⟩, h2⟩)
  clear t qb nb hbn hH hq
  rw [← Hn.out]
  go_enter Tryz.func26, Tryz.ntmps26
  go_upto_region 1 with fail
  clear eM z9
  go_wp2_with fail
  go_loopw [5] (fun v5 wt => ∃ i : Nat, v5 = .int .i64 (i : Int) ∧ i ≤ n ∧ Hid (Wv wB.heap.size wt b i M) ∧ Hid (Apart b.v.ownBlock.toList w wt)) (fun v5 _ => n - natV v5)
  case atStart => exact ⟨0, rfl, Nat.zero_le _, HV0, HA0⟩
  case round =>
    clear HV0 HA0
    obtain ⟨i, rfl, hi, HV, HA⟩ := hrel
    generalize wr = wt at *
    by_cases hlt : i < n
    · have hlti : ((i : Nat) : Int) < ((n : Nat) : Int) := by omega
      obtain ⟨g, u, hp, hg, hz, hf, hset⟩ := HV.out.set (by rw [← Hn.out]; exact hlt)
      have HP := hid hp
      have HS := hid hset
      have HA2 : Hid (Apart b.v.ownBlock.toList w (wt.setCell ⟨g, i, none⟩ (.int .u8 (M : Int)))) := hid (HA.out.setCell (.inl (by rw [Sl.v, hp]; simp [Value.ownBlock])) _)
      clear hp hset hg
      go_wp2_with (refine wpL_val rfl (.pointer (some ⟨g, i, none⟩)) (ex_idx29 _ _ g rfl rfl HP.out rfl hlt) ?_)
      exact ⟨⟨i + 1, by go_num, by omega, HS, HA2⟩, by simp [natV]; omega⟩
    · have hlti : ¬ ((i : Nat) : Int) < ((n : Nat) : Int) := by omega
      obtain rfl : i = n := by omega
      have HTt := hid (HT.out.kept HA.out HXb.out)
      have HBl : Hid (wB.heap.size ≤ wt.heap.size) := hid HTt.out.ap.size
      obtain ⟨far, w3, hrun, v3, l3, or3⟩ := Wv.app (M := M) (by rw [← Hn.out]; exact HV.out) 2 (by omega) (by rw [← Hn.out]; omega) HBl.out
      have e2 : (byts (List.replicate 2 M)).toArray = #[.int .u8 (M : Int), .int .u8 (M : Int)] := rfl
      rw [e2] at hrun
      rw [← Hn.out] at hrun l3
      have HR := hid hrun
      have HV3 := hid v3
      have Hl3 := hid l3
      -- what is held of b and of far, with what has changed
      have HI3 : Hid (HbP w w3 b far M) := hid (by
        rcases or3 with ⟨o1, ⟨g, o2⟩, o3⟩ | ⟨g, o1, o2, o3, o4⟩
        · refine ⟨?_, ?_, .inl o1, fun P hP => by obtain ⟨-, -, e⟩ := v3.own (P := P) (by rw [ownp o1]; exact hP); exact e⟩
          · rw [← o1]
            exact v3.rdT (by rw [l3]; have := Hn.out; omega) (by rw [l3]; have := Hn.out; omega)
          · have e : b.v.ownBlock.toList = [g] := by rw [Sl.v, o2]; rfl
            have h1 := o3 g o2
            rw [e]
            have h2 := HA.out
            rw [e] at h2
            exact h2.trans h1
        · refine ⟨(HV.out.rdT (by have := Hn.out; omega) (by have := Hn.out; omega)).kept o4 (by simp), HA.out.trans (o4.mono (by simp)), .inr ⟨g, o1, Nat.le_trans HA.out.size o2, fun e => ?_⟩, fun P hP => by obtain ⟨-, -, e⟩ := (HV.out.kept o4).own hP; exact e⟩
          obtain ⟨-, -, cur, m, e3⟩ := HV.out.own e
          have := lt_of_heapM e3
          omega)
      clear hrun v3 l3 or3 e2
      go_upto_region 6 with (refine wpList_append3 rfl _ _ 29 rfl _ _ rfl rfl (.slice far.p far.n far.c) w3 HR.out ?_)
      clear HR HTt HBl HV HA
      go_loopw [6] (fun v6 wt => ∃ (j : Nat) (far : Sl), v6 = .slice far.p (i + 2 + j) far.c ∧ j ≤ 78 ∧ Hid (far.n = i + 2 + j) ∧ Hid (Wv wB.heap.size wt far far.n M) ∧ Hid (HbP w wt b far M)) (fun v6 _ => i + 80 - lenS v6)
      case atStart => exact ⟨0, far, by rw [Hl3.out], by omega, Hl3, HV3, HI3⟩
      case round =>
        clear HV3 HI3 Hl3
        obtain ⟨j, f2, rfl, hj, Hfn, HV, HI⟩ := hrel
        generalize wr = wt2 at *
        have HTt := hid (HT.out.kept HI.out.2.1 HXb.out)
        have HBl : Hid (wB.heap.size ≤ wt2.heap.size) := hid HTt.out.ap.size
        by_cases hlt2 : j < 78
        · have hlti : ((i + 2 + j : Nat) : Int) < ((i : Nat) : Int) + 80 := by omega
          obtain ⟨f3, w4, hrun, v4, l4, or4⟩ := Wv.app HV.out 1 (by omega) (by rw [Hfn.out]; omega) HBl.out
          have e1 : (byts (List.replicate 1 M)).toArray = #[.int .u8 (M : Int)] := rfl
          rw [e1, Hfn.out] at hrun
          rw [Hfn.out] at l4
          have HR := hid hrun
          have HV4 := hid v4
          have Hl4 : Hid (f3.n = i + 2 + (j + 1)) := hid (by rw [l4]; omega)
          have HI4 : Hid (HbP w w4 b f3 M) := hid (by
            obtain ⟨i1, i2, i3, i6⟩ := HI.out
            have hbn : b.n ≤ f2.n := by rw [Hfn.out, ← Hn.out]; omega
            rcases or4 with ⟨o1, ⟨g, o2⟩, o3⟩ | ⟨g, o1, o2, o3, o4⟩
            · rcases i3 with i3 | ⟨g', i3, i4, i5⟩
              · refine ⟨?_, ?_, .inl (o1.trans i3), fun P hP => by obtain ⟨-, -, e⟩ := v4.own (P := P) (by rw [ownp (o1.trans i3)]; exact hP); exact e⟩
                · rw [← i3, ← o1]
                  exact v4.rdT (by rw [l4, ← Hfn.out]; omega) (by rw [l4, ← Hfn.out]; omega)
                · have e : b.v.ownBlock.toList = [g] := by rw [Sl.v, ← i3, o2]; rfl
                  have h1 := o3 g o2
                  rw [e]
                  rw [e] at i2
                  exact i2.trans h1
              · obtain rfl : g = g' := by rw [i3] at o2; simpa using o2.symm
                have h1 := o3 g o2
                refine ⟨fun h0 => ?_, i2.trans' h1 (fun y hy => by rw [List.mem_singleton.1 hy]; exact .inr i4), .inr ⟨g, o1.trans i3, i4, i5⟩, fun P hP => ?_⟩
                · obtain ⟨P, o, e1, ⟨cur, m, e2⟩, e3⟩ := i1 h0
                  have hPg : P ∉ [g] := fun hm => by
                    rw [List.mem_singleton.1 hm] at e1
                    exact i5 (by rw [Sl.v, e1]; rfl)
                  exact ⟨P, o, e1, ⟨cur, m, (h1.block P (lt_of_heapM e2) hPg).trans e2⟩, fun q u hq => (h1.cell (lt_of_heapM e2) hPg).trans (e3 q u hq)⟩
                · obtain ⟨cur, m, e2⟩ := i6 P hP
                  exact ⟨cur, m, (h1.block P (lt_of_heapM e2) (fun hm => i5 (by rw [← List.mem_singleton.1 hm]; exact hP))).trans e2⟩
            · refine ⟨i1.kept o4 (by simp), i2.trans (o4.mono (by simp)), .inr ⟨g, o1, Nat.le_trans i2.size o2, fun e => ?_⟩, fun P hP => by obtain ⟨cur, m, e2⟩ := i6 P hP; exact ⟨cur, m, (o4.block P (lt_of_heapM e2) (by simp)).trans e2⟩⟩
              obtain ⟨-, -, cur, m, e3⟩ := HV0x.out.own e
              have h1 := lt_of_heapM e3
              have h2 := i2.size
              omega)
          clear hrun v4 l4 or4 e1 HTt HBl
          go_wp2_with (refine wpList_append3 rfl _ _ 29 rfl _ _ rfl rfl (.slice f3.p f3.n f3.c) w4 HR.out ?_)
          exact ⟨⟨j + 1, f3, by rw [Hl4.out], by omega, Hl4, HV4, HI4⟩, by rw [Hl4.out]; simp [lenS]; omega⟩
        · have hlti : ¬ ((i + 2 + j : Nat) : Int) < ((i : Nat) : Int) + 80 := by omega
          obtain ⟨i0, hif, hz0, hz1, hz2⟩ := info_of info29
          have hsn2 : sH.n = 2 * q := hsn
          obtain ⟨s5, w5, hrun, hnw5, hs5, ap5, k5, hk5, -, hk6⟩ := run_appM (s := sH) 46 46 29 i0 _ 1 24 Tryz.underlying46 hif hz0 hz1 hz2 rfl (by decide) HTt.out.nh 2 (svs [b, f2]) (by decide) rfl svs_one (by unfold maxLen; omega) (by omega)
          have e5 : (svs [b, f2]).toArray = #[.slice b.p b.n b.c, .slice f2.p f2.n f2.c] := rfl
          have e6 : sH.v = .slice sH.p (2 * q) sH.c := by rw [Sl.v, hsn]
          rw [e5, ← Hn.out, Hfn.out, e6] at hrun
          have HR := hid hrun
          have hNw : ∀ P, s5.v.ownBlock = some P → sH.v.ownBlock = some P ∨ w.heap.size ≤ P := fun P hP => by
            rw [Sl.v, hk5] at hP
            obtain rfl : k5 = P := by simpa [Value.ownBlock] using hP
            exact hk6.imp id (fun z => Nat.le_trans HI.out.2.1.size z)
          have HN5 := hid hNw
          have hlen : H.length = 2 * q := by rw [← HTt.out.hn, hsn]
          have eb : ∀ P, b.v.ownBlock = some P → wB.heap.size ≤ P ∧ ∃ cur m, wt2.heap[P]? = some (.cells cur 5 m) := fun P hP => by
            obtain ⟨-, h2, -⟩ := HV0x.out.own hP
            exact ⟨h2, HI.out.2.2.2 P hP⟩
          have HPu := hid (HTt.out.pushH (b := b) (far := f2) (sN := s5) ap5 (by rw [svs_app]; exact hnw5) (by rw [hs5, HTt.out.hn]) (fun P hP => by
            rw [Sl.v, hk5] at hP
            obtain rfl : k5 = P := by simpa [Value.ownBlock] using hP
            exact hk6) (by rw [HMk.out]; exact HI.out.1) (by rw [HMk.out]; exact HV.out.rdT (Nat.le_refl _) (Nat.le_refl _)) eb (fun P hP => by
              obtain ⟨-, h2, cur, m, h3⟩ := HV.out.own hP
              exact ⟨h2, cur, m, h3⟩))
          have HB5 : Hid (w5.heap[T]? = some (.cells (tbC k p r sH sL).toArray 49 (0, 0))) := hid ((ap5.block T (lt_of_heap HTt.out.blk) (fun hm => by
            obtain ⟨cur, e⟩ := own_typ HTt.out.nh.own (k := T) (by simpa using hm)
            rw [HTt.out.blk] at e
            simp at e)).trans HTt.out.blk)
          have HK : Hid (KP w (w5.setCell ⟨T, 9, none⟩ (.slice s5.p s5.n s5.c)) T sH s5 b h (fun P => h P ∨ b.v.ownBlock = some P ∨ f2.v.ownBlock = some P)) := hid ⟨((HI.out.2.1.mono (fun y hy => by simp only [List.mem_cons, List.mem_append]; exact .inr (.inr hy))).trans (ap5.mono (fun y hy => by simp only [List.mem_cons, List.mem_append]; exact .inr (.inl hy)))).setCell (.inl (by simp)) _, fun P hP => by
            rcases hP with hP | hP | hP
            · exact .inl hP
            · exact .inr (.inl hP)
            · rcases HI.out.2.2.1 with e | ⟨g, e, e2, -⟩
              · exact .inr (.inl (by rw [← ownp e]; exact hP))
              · rw [Sl.v, e] at hP
                obtain rfl : g = P := by simpa [Value.ownBlock] using hP
                exact .inr (.inr e2), HN5.out⟩
          have z9 := HTt.out.ch
          rw [hsn] at z9
          have z95 : w5.cell? ⟨T, 9, none⟩ = some (.slice sH.p (2 * q) sH.c) := by rw [← hsn]; exact dcell HB5.out rfl
          have f95 : w5.frozen? ⟨T, 9, none⟩ = false := frozen_of_row _ _ _ _ _ HB5.out
          clear hrun hnw5 hs5 ap5 hk5 hk6 e5 e6 hNw eb hif hz0 hz1 hz2 hsn2 hlen
          go_wp2_with (refine wpList_append3 rfl _ _ 46 rfl _ _ rfl rfl (.slice s5.p s5.n s5.c) w5 HR.out ?_)
          go_end0
          exact ⟨rfl, f2, s5, _, HPu.out, HK.out, by rw [Hfn.out]; omega⟩
end Go.Proofs.YtdbeeikjngnnnaaGreat.ty
