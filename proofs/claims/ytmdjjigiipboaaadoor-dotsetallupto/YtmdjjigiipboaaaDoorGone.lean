import Derived.Test.YtmdjjigiipboaaaDoorP1
import Derived.Test.YtmdjjigiipboaaaDoorMet
import Derived.Test.YtmdjjigiipboaaaDoorRm
import Derived.Test.YtmdjjigiipboaaaDoorMs78
import Derived.Test.YtmdjjigiipboaaaDoorMs81
import Derived.Test.YtmdjjigiipboaaaDoorMg
namespace Go.Proofs.YtmdjjigiipboaaaDoor.ds
open Go.ChangeShapes Go.WideShapes Go.ChangeAt Go.RowKit
set_option linter.unusedVariables false
set_option linter.unusedSimpArgs false
theorem own_typ52 {w : World} {base : Nat} {e : TypeId} {size : Nat} {v : Value} {n : Nat} {xs : List Value} (h : w.ownsRow base e size v n xs) {k : Nat} (hk : v.ownBlock = some k) : ∃ cur, w.heap[k]? = some (.cells cur e (0, 0)) := by
  obtain ⟨hl, ⟨hv, hz⟩ | ⟨g, cap, cur, rfl, hb, hr, hrest⟩⟩ := h
  · subst hv; cases hk
  · simp [Value.ownBlock] at hk; subst hk; exact ⟨cur, hr⟩
/-- what is lent, with its row -/
structure LentOwn (w w' : World) (r : Ending) (N : Nat) (xs : List S) : Prop where
  ex : ∃ G cap cur, r = .returned (.slice (some ⟨G, 0, none⟩) (N + 2) cap) ∧ N + 2 ≤ cap ∧ L w' (some ⟨G, 0, none⟩) (N + 2) (xs ++ [m1, m2]) ∧ L w' (some ⟨G, 0, none⟩) N xs ∧ Apart [] w w' ∧ w.heap.size ≤ G ∧ w'.heap[G]? = some (.cells cur 52 (0, 0)) ∧ (N + 2) * 3 ≤ cur.size
set_option maxHeartbeats 2000000 in
theorem lent_own {p : Option Addr} {N cap : Nat} {xs : List S} {w : World} (h : L w p N xs) (hN : N ≤ 4398046511104) : Calls Tryd.prog 30 #[.slice p N cap] w fun r w' => LentOwn w w' r N xs := by
  go_enter Tryd.func30, Tryd.ntmps30
  go_wp2_with fail
  refine (copied_ok h hN).mono ?_
  rintro r w1 ⟨⟨p1, c1, rfl, own1⟩⟩
  dsimp only
  go_wp2_with fail
  refine (mark1 w1).mono ?_
  rintro r w2 ⟨rfl, a2⟩
  dsimp only
  go_wp2_with fail
  refine (mark2 w2).mono ?_
  rintro r w3 ⟨rfl, a3⟩
  dsimp only
  have own3 := ((own1.kept a2).kept a3).kept ((Apart.refl [] w3).alloc (.cells #[.int .i64 7001, .int .i64 (-1), .int .u64 5, .int .i64 7002, .int .i64 (-2), .int .u64 5] 52))
  obtain ⟨G, cap', w4, hrun, hcap, own4⟩ := own_append2 own3 hN 22 ⟨w3.heap.size, 0, none⟩ m1 m2 (by simp [Addr.add, m1]) (by simp [Addr.add, m1]) (by simp [Addr.add, m1]) (by simp [Addr.add, m2]) (by simp [Addr.add, m2]) (by simp [Addr.add, m2])
  clear own3 own1
  go_wp2_with (at_builtin; refine wpList_append3 rfl (.tmp 4) (.tmp 7) 22 rfl _ _ rfl rfl _ _ hrun ?_)
  go_ret
  have l4 := own4.L (by omega) (fun x hx => by
    simp only [List.mem_append, List.mem_cons, List.not_mem_nil, or_false] at hx
    rcases hx with hx | rfl | rfl
    · exact h.fit x hx
    · decide
    · decide)
  have hrow : ∃ cur, w4.heap[G]? = some (.cells cur 52 (0, 0)) ∧ (N + 2) * 3 ≤ cur.size := by
    obtain ⟨cur, hc⟩ := own_typ52 own4.own (k := G) rfl
    refine ⟨cur, hc, ?_⟩
    obtain ⟨P, o, e, hP, hcc⟩ := l4.sp (by simp)
    simp only [Option.some.injEq, Addr.mk.injEq, and_true] at e
    obtain ⟨rfl, rfl⟩ := e
    have hl := l4.len
    have := (hcc (N + 1) (by omega)).2.2
    rw [cell_of_row _ _ _ _ _ _ hc] at this
    have h3 := Array.getElem?_eq_some_iff.1 this
    obtain ⟨h4, _⟩ := h3
    omega
  obtain ⟨cur, hc1, hc2⟩ := hrow
  refine ⟨G, cap', cur, rfl, hcap, l4, ⟨fun h0 => ?_, h.len, h.lim, h.fit⟩, own4.ap, own4.new G rfl, hc1, hc2⟩
  obtain ⟨P, o, e, hP, hc⟩ := l4.sp (by simp)
  simp only [Option.some.injEq, Addr.mk.injEq, and_true] at e
  obtain ⟨rfl, rfl⟩ := e
  refine ⟨G, 0, rfl, hP, fun i hi => ?_⟩
  have := hc i (by simp; omega)
  rwa [g_append hi] at this
/-- three cells of a row put anew -/
theorem put3 {w : World} {G : Nat} {cur : Array Value} {t : TypeId} (h : w.heap[G]? = some (.cells cur t (0, 0))) (i : Nat) (a b c : Value) : ∃ cur', (((w.setCell ⟨G, i, none⟩ a).setCell ⟨G, i + 1, none⟩ b).setCell ⟨G, i + 2, none⟩ c).heap[G]? = some (.cells cur' t (0, 0)) ∧ cur'.size = cur.size := by
  have h1 := heap_setCell_same w G i _ t a h
  have h2 := heap_setCell_same _ G (i + 1) _ t b h1
  have h3 := heap_setCell_same _ G (i + 2) _ t c h2
  exact ⟨_, h3, by simp⟩
theorem cell_ex {w : World} {G : Nat} {cur : Array Value} {t : TypeId} (h : w.heap[G]? = some (.cells cur t (0, 0))) {j : Nat} (hj : j < cur.size) : ∃ v, w.cell? ⟨G, j, none⟩ = some v := ⟨cur[j], by rw [cell_of_row _ _ _ _ _ _ h]; simp [hj]⟩
end Go.Proofs.YtmdjjigiipboaaaDoor.ds
namespace Go.Proofs.YtmdjjigiipboaaaDoor.ds
open Go.ChangeShapes Go.WideShapes Go.ChangeAt Go.RowKit
theorem eqfIn (d : Nat) (w : World) (f : Fn) (a c : Array Value) : (Op.equalIn (d + 1) 60 (.func f a c) .nilFunc).run Tryd.prog w = .ok false w := by
  simp [Op.equalIn, run_underlying Tryd.underlying60]
theorem eqf (w : World) (f : Fn) (a c : Array Value) : (binOp .eql 60 (.func f a c) .nilFunc).run Tryd.prog w = .ok (.bool false) w := by
  have e : (Op.equal 60 (.func f a c) .nilFunc).run Tryd.prog w = .ok false w := eqfIn 9999 w f a c
  simp only [binOp]
  simp [e]
end Go.Proofs.YtmdjjigiipboaaaDoor.ds
namespace Go.Proofs.YtmdjjigiipboaaaDoor.ds
open Go.ChangeShapes Go.WideShapes Go.ChangeAt Go.RowKit
set_option linter.unusedVariables false
set_option linter.unusedSimpArgs false
/-- on the way: as many met as lie before -/
structure Jw (Bs : Nat) (p : Option Addr) (n c : Nat) (st : Int) (ds pre : List (Int × Int)) (W : World) : Prop where
  wk : Wk W Bs p n c st (pre.length : Nat) false false
  lt : pre.length < 300
  pre : pre <+: ds
/-- left -/
structure Jl (Bs : Nat) (p : Option Addr) (n c : Nat) (st : Int) (all pre : List (Int × Int)) (W : World) : Prop where
  wk : ∃ (k : Nat) (bd : Bool), Wk W Bs p n c st k true bd ∧ (pre <+: all → bd = false)
theorem client_w (Bs : Nat) (p : Option Addr) (n c : Nat) (st : Int) (ds all : List (Int × Int)) : Client (fun k => k = Bs) (Jw Bs p n c st ds) (Jl Bs p n c st all) :=
  ⟨fun pre A B h _ e => ⟨h.wk.same (e Bs rfl), h.lt, h.pre⟩, fun pre A B h _ e => by
    obtain ⟨⟨k, bd, hw, hb⟩⟩ := h
    exact ⟨k, bd, hw.same (e Bs rfl), hb⟩⟩
theorem pre_get {pre ds : List (Int × Int)} (h : pre <+: ds) (hk : pre.length < ds.length) : pre ++ [ds.getD pre.length (0, 0)] <+: ds := by
  obtain ⟨t, rfl⟩ := h
  cases t with
  | nil => simp at hk
  | cons a t =>
    have : (pre ++ a :: t).getD pre.length (0, 0) = a := by simp [List.getD]
    rw [this]
    exact ⟨t, by simp⟩
theorem get_pre {pre ds : List (Int × Int)} {d : Int × Int} (h : pre ++ [d] <+: ds) : pre.length < ds.length ∧ ds.getD pre.length (0, 0) = d := by
  obtain ⟨t, rfl⟩ := h
  refine ⟨by simp, by simp [List.getD]⟩
theorem LD.fr {w w' : World} {p : Option Addr} {N : Nat} {ds : List (Int × Int)} {K : Nat → Prop} (h : LD w p N ds) (f : Fr K w w') (hK : ∀ P o, p = some ⟨P, o, none⟩ → K P) : LD w' p N ds := by
  refine ⟨h.len, h.lim, fun h0 => ?_⟩
  obtain ⟨P, o, rfl, hP, hc⟩ := h.at' h0
  have e : ∀ j, w'.cell? ⟨P, j, none⟩ = w.cell? ⟨P, j, none⟩ := fun j => World.cell?_of_block (a := ⟨P, j, none⟩) (f.block P hP (hK P o rfl))
  exact ⟨P, o, rfl, Nat.lt_of_lt_of_le hP f.size, fun i hi => by rw [e, e]; exact hc i hi⟩
/-- what a call of met does to what lies before -/
theorem met_j {W W' : World} {Bs : Nat} {p : Option Addr} {n c : Nat} {st : Int} {all pre : List (Int × Int)} {d : Int × Int} {hit en : Bool} {r : Ending} (hn : n = (all.take 300).length) (hj : Jw Bs p n c st (all.take 300) pre W) (hh : hit = decide (pre.length < n ∧ (all.take 300).getD pre.length (0, 0) = d)) (he : en = (decide ((pre.length : Int) + 1 = st) || decide ((pre.length : Int) + 1 = 300))) (m : MetP W W' r Bs p n c st pre.length hit en) :
    ((r = .returned (.bool true) ∧ Jw Bs p n c st (all.take 300) (pre ++ [d]) W') ∨ (r = .returned (.bool false) ∧ Jl Bs p n c st all (pre ++ [d]) W')) ∧ Fr (fun k => ¬ k = Bs) W W' := by
  obtain ⟨⟨rfl, F, h1, h2⟩⟩ := m
  refine ⟨?_, F⟩
  cases hit
  · right
    refine ⟨rfl, pre.length, true, h2 rfl, fun hp => ?_⟩
    exfalso
    have hp3 : pre ++ [d] <+: all.take 300 := List.prefix_take_iff.2 ⟨hp, by have := hj.lt; simp; omega⟩
    obtain ⟨g1, g2⟩ := get_pre hp3
    have := of_decide_eq_false hh.symm
    exact this ⟨by omega, g2⟩
  · obtain ⟨g1, g2⟩ := of_decide_eq_true hh.symm
    have gp := pre_get hj.pre (by omega)
    rw [g2] at gp
    cases en
    · left
      have h3 : ¬ ((pre.length : Int) + 1 = 300) := fun h => by rw [decide_eq_true h] at he; simp at he
      have := hj.lt
      exact ⟨rfl, by have := h1 rfl; simpa using this, by simp; omega, gp⟩
    · right
      exact ⟨rfl, pre.length + 1, false, h1 rfl, fun _ => rfl⟩
set_option maxHeartbeats 4000000 in
set_option maxRecDepth 100000 in
theorem gone1_ok {W : World} {BO Bs : Nat} {p : Option Addr} {n c : Nat} {st : Int} {all pre : List (Int × Int)} (hO : W.cell? ⟨BO, 0, none⟩ = some (.pointer (some ⟨Bs, 0, none⟩))) (hne : BO ≠ Bs) (l : LD W p n (all.take 300)) (hnb : ∀ P o, p = some ⟨P, o, none⟩ → P ≠ Bs) (hj : Jw Bs p n c st (all.take 300) pre W) (d : Int × Int) :
    Calls Tryd.prog 78 #[.agg #[.int .i64 d.1, .int .i64 d.2], .pointer (some ⟨BO, 0, none⟩)] W fun r W' => ((r = .returned (.bool true) ∧ Jw Bs p n c st (all.take 300) (pre ++ [d]) W') ∨ (r = .returned (.bool false) ∧ Jl Bs p n c st all (pre ++ [d]) W')) ∧ Fr (fun k => ¬ k = Bs) W W' := by
  have hn3 : n ≤ 300 := by have := l.len; rw [List.length_take] at this; omega
  have kD := fun V => @new1d W (.int .i64 d.1) (.int .i64 d.2) 35 V
  have aV : Apart [] W (W.alloc (.cells #[.int .i64 d.1, .int .i64 d.2] 35)) := (Apart.refl _ _).alloc _
  have HO := aV.keep hO
  have HL := hid (l.kept0 aV)
  have HJ : Hid (Jw Bs p n c st (all.take 300) pre (W.alloc (.cells #[.int .i64 d.1, .int .i64 d.2] 35))) := ⟨hj.wk.same (aV.block Bs hj.wk.lt (by simp)), hj.lt, hj.pre⟩
  have HN := hid l.len
  have HNB := hid hnb
  have HF := hid (aV.fr (K := fun k => ¬ k = Bs))
  clear hj l hO hnb
  obtain ⟨dn, dc⟩ := d
  go_enter Tryd.func78, Tryd.ntmps78
  go_wp2_with fail
  obtain ⟨hit, Hh⟩ : ∃ b, Hid (b = decide (pre.length < n ∧ (all.take 300).getD pre.length (0, 0) = (dn, dc))) := ⟨_, rfl⟩
  obtain ⟨en, He⟩ : ∃ b, Hid (b = (decide ((pre.length : Int) + 1 = st) || decide ((pre.length : Int) + 1 = 300))) := ⟨_, rfl⟩
  refine (met_ok HJ.out.wk HL.out HJ.out.lt hn3 HNB.out (dn, dc) hit en Hh He).mono ?_
  rintro r W' m
  obtain ⟨hdis, F⟩ := met_j HN.out.symm HJ.out Hh.out He.out m
  have F2 := hid (HF.out.trans F)
  clear F m Hh He HJ HL
  rcases hdis with ⟨rfl, j⟩ | ⟨rfl, j⟩
  · have HX := hid j
    clear j
    dsimp only
    go_wp2
    go_ret
    exact ⟨.inl ⟨rfl, HX.out⟩, F2.out⟩
  · have HX := hid j
    clear j
    dsimp only
    go_wp2
    go_ret
    exact ⟨.inr ⟨rfl, HX.out⟩, F2.out⟩
set_option maxHeartbeats 4000000 in
set_option maxRecDepth 100000 in
theorem gone2_ok {W : World} {BO Bs : Nat} {p : Option Addr} {n c : Nat} {st : Int} {all pre : List (Int × Int)} (hO : W.cell? ⟨BO, 0, none⟩ = some (.pointer (some ⟨Bs, 0, none⟩))) (hne : BO ≠ Bs) (l : LD W p n (all.take 300)) (hnb : ∀ P o, p = some ⟨P, o, none⟩ → P ≠ Bs) (hj : Jw Bs p n c st (all.take 300) pre W) (d : Int × Int) :
    Calls Tryd.prog 81 #[.agg #[.int .i64 d.1, .int .i64 d.2], .pointer (some ⟨BO, 0, none⟩)] W fun r W' => ((r = .returned (.bool true) ∧ Jw Bs p n c st (all.take 300) (pre ++ [d]) W') ∨ (r = .returned (.bool false) ∧ Jl Bs p n c st all (pre ++ [d]) W')) ∧ Fr (fun k => ¬ k = Bs) W W' := by
  have hn3 : n ≤ 300 := by have := l.len; rw [List.length_take] at this; omega
  have kD := fun V => @new1d W (.int .i64 d.1) (.int .i64 d.2) 35 V
  have aV : Apart [] W (W.alloc (.cells #[.int .i64 d.1, .int .i64 d.2] 35)) := (Apart.refl _ _).alloc _
  have HO := aV.keep hO
  have HL := hid (l.kept0 aV)
  have HJ : Hid (Jw Bs p n c st (all.take 300) pre (W.alloc (.cells #[.int .i64 d.1, .int .i64 d.2] 35))) := ⟨hj.wk.same (aV.block Bs hj.wk.lt (by simp)), hj.lt, hj.pre⟩
  have HN := hid l.len
  have HNB := hid hnb
  have HF := hid (aV.fr (K := fun k => ¬ k = Bs))
  clear hj l hO hnb
  obtain ⟨dn, dc⟩ := d
  go_enter Tryd.func81, Tryd.ntmps81
  go_wp2_with fail
  obtain ⟨hit, Hh⟩ : ∃ b, Hid (b = decide (pre.length < n ∧ (all.take 300).getD pre.length (0, 0) = (dn, dc))) := ⟨_, rfl⟩
  obtain ⟨en, He⟩ : ∃ b, Hid (b = (decide ((pre.length : Int) + 1 = st) || decide ((pre.length : Int) + 1 = 300))) := ⟨_, rfl⟩
  refine (met_ok HJ.out.wk HL.out HJ.out.lt hn3 HNB.out (dn, dc) hit en Hh He).mono ?_
  rintro r W' m
  obtain ⟨hdis, F⟩ := met_j HN.out.symm HJ.out Hh.out He.out m
  have F2 := hid (HF.out.trans F)
  clear F m Hh He HJ HL
  rcases hdis with ⟨rfl, j⟩ | ⟨rfl, j⟩
  · have HX := hid j
    clear j
    dsimp only
    go_wp2
    go_ret
    exact ⟨.inl ⟨rfl, HX.out⟩, F2.out⟩
  · have HX := hid j
    clear j
    dsimp only
    go_wp2
    go_ret
    exact ⟨.inr ⟨rfl, HX.out⟩, F2.out⟩
end Go.Proofs.YtmdjjigiipboaaaDoor.ds
namespace Go.Proofs.YtmdjjigiipboaaaDoor.ds
open Go.ChangeShapes Go.WideShapes Go.ChangeAt Go.RowKit
set_option linter.unusedVariables false
set_option linter.unusedSimpArgs false
/-- a walk that was met as it should be -/
structure WalkP (w w' : World) (r : Ending) (p : Option Addr) (n c : Nat) (st : Int) : Prop where
  ex : (∃ v, r = .returned v) ∧ (∃ (k : Nat) (en : Bool), Wk w' w.heap.size p n c st k en false ∧ (en = true ∨ k = n)) ∧ w'.cell? ⟨w.heap.size + 1, 0, none⟩ = some (.pointer (some ⟨w.heap.size, 0, none⟩)) ∧ Apart [] w w'
theorem fr_apart {w V w' : World} {Bs : Nat} (a : Apart [] w V) (f : Fr (fun k => ¬ k = Bs) V w') (h : w.heap.size ≤ Bs) : Apart [] w w' := by
  have b : Apart [Bs] V w' := ⟨f.os, f.tape, f.output, f.size, fun k hk hn => f.block k hk (by simpa using hn)⟩
  exact a.trans' b (fun y hy => .inr (by simp at hy; omega))
theorem walk1 (w : World) (T : Tab w) (BA BB : Nat) (p pa pb : Option Addr) (n cap na ca nb cb : Nat) (st : Int) (xs ys : List S) (hA : w.cell? ⟨BA, 0, none⟩ = some (.slice pa na ca)) (hB : w.cell? ⟨BB, 0, none⟩ = some (.slice pb nb cb)) (la : L w pa na xs) (lb : L w pb nb ys) (ka : OkL 64 xs) (kb : OkL 64 ys) (npa : ∀ P o, pa = some ⟨P, o, none⟩ → P < w.heap.size) (npb : ∀ P o, pb = some ⟨P, o, none⟩ → P < w.heap.size) (np : ∀ P o, p = some ⟨P, o, none⟩ → P < w.heap.size) (ld : LD w p n ((lackL xs ys).take 300)) :
    Calls Tryd.prog 60 #[.func (.func 78) #[] #[.pointer (some ⟨w.heap.size + 1, 0, none⟩)], .pointer (some ⟨BA, 0, none⟩), .pointer (some ⟨BB, 0, none⟩)] ((w.alloc (.cells #[.slice p n cap, .int .i64 st, .int .i64 0, .bool false, .bool false] 88)).alloc (.cells #[.pointer (some ⟨w.heap.size, 0, none⟩)] 86)) fun r w' => WalkP w w' r p n cap st := by
  have a : Apart [] w ((w.alloc (.cells #[.slice p n cap, .int .i64 st, .int .i64 0, .bool false, .bool false] 88)).alloc (.cells #[.pointer (some ⟨w.heap.size, 0, none⟩)] 86)) := ((Apart.refl _ _).alloc _).alloc _
  have hs : ((w.alloc (.cells #[.slice p n cap, .int .i64 st, .int .i64 0, .bool false, .bool false] 88)).alloc (.cells #[.pointer (some ⟨w.heap.size, 0, none⟩)] 86)).heap.size = w.heap.size + 2 := by simp
  have r0 : ((w.alloc (.cells #[.slice p n cap, .int .i64 st, .int .i64 0, .bool false, .bool false] 88)).alloc (.cells #[.pointer (some ⟨w.heap.size, 0, none⟩)] 86)).heap[w.heap.size]? = some (.cells #[.slice p n cap, .int .i64 st, .int .i64 0, .bool false, .bool false] 88 (0, 0)) := by
    rw [((Apart.refl [] (w.alloc (.cells #[.slice p n cap, .int .i64 st, .int .i64 0, .bool false, .bool false] 88))).alloc (.cells #[.pointer (some ⟨w.heap.size, 0, none⟩)] 86)).block w.heap.size (by simp) (by simp)]
    rw [World.alloc.eq_1]; simp
  have r1 : ((w.alloc (.cells #[.slice p n cap, .int .i64 st, .int .i64 0, .bool false, .bool false] 88)).alloc (.cells #[.pointer (some ⟨w.heap.size, 0, none⟩)] 86)).heap[w.heap.size + 1]? = some (.cells #[.pointer (some ⟨w.heap.size, 0, none⟩)] 86 (0, 0)) := by
    have := World.alloc_heap_new (w.alloc (.cells #[.slice p n cap, .int .i64 st, .int .i64 0, .bool false, .bool false] 88)) (.cells #[.pointer (some ⟨w.heap.size, 0, none⟩)] 86)
    rwa [World.size_alloc] at this
  generalize (w.alloc (.cells #[.slice p n cap, .int .i64 st, .int .i64 0, .bool false, .bool false] 88)).alloc (.cells #[.pointer (some ⟨w.heap.size, 0, none⟩)] 86) = V at *
  have hO : V.cell? ⟨w.heap.size + 1, 0, none⟩ = some (.pointer (some ⟨w.heap.size, 0, none⟩)) := by rw [cell_of_row _ _ _ _ _ _ r1]; rfl
  have ltA := block_lt_of_cell hA
  have ltB := block_lt_of_cell hB
  have lt0 := T.lt
  simp only at ltA ltB
  refine (miss_walk78 V (T.kept0 a) (w.heap.size + 1) BA BB (fun k => k = w.heap.size) (Jw w.heap.size p n cap st ((lackL xs ys).take 300)) (Jl w.heap.size p n cap st (lackL xs ys)) (client_w _ _ _ _ _ _ _) pa pb na ca nb cb xs ys (a.keep hA) (a.keep hB) (la.kept0 a) (lb.kept0 a) ka kb (fun k hk => by omega) (fun h => by omega) (fun h => by omega) (fun h => by omega) (fun P o e h => by have := npa P o e; omega) (fun P o e h => by have := npb P o e; omega) ?_ ⟨⟨r0⟩, by simp, List.nil_prefix⟩).mono ?_
  · intro pre d W hj f
    exact gone1_ok (f.cell hO (by show ¬ w.heap.size + 1 = w.heap.size; omega)) (by omega) ((ld.kept0 a).fr f (fun P o e h => by have := np P o e; omega)) (fun P o e => by have := np P o e; omega) hj d
  · rintro r w' ⟨hv, hj, f⟩
    refine ⟨hv, ?_, f.cell hO (by show ¬ w.heap.size + 1 = w.heap.size; omega), fr_apart a f (Nat.le_refl _)⟩
    rcases hj with hj | ⟨pre, hp, hj⟩
    · refine ⟨(lackL xs ys).length, false, hj.wk, .inr ?_⟩
      have h1 := ld.len
      have h2 := hj.lt
      rw [List.length_take] at h1
      omega
    · obtain ⟨⟨k, bd, hw, hb⟩⟩ := hj
      rw [hb hp] at hw
      exact ⟨k, true, hw, .inl rfl⟩
theorem walk2 (w : World) (T : Tab w) (BA BB : Nat) (p pa pb : Option Addr) (n cap na ca nb cb : Nat) (st : Int) (xs ys : List S) (hA : w.cell? ⟨BA, 0, none⟩ = some (.slice pa na ca)) (hB : w.cell? ⟨BB, 0, none⟩ = some (.slice pb nb cb)) (la : L w pa na xs) (lb : L w pb nb ys) (ka : OkL 64 xs) (kb : OkL 64 ys) (npa : ∀ P o, pa = some ⟨P, o, none⟩ → P < w.heap.size) (npb : ∀ P o, pb = some ⟨P, o, none⟩ → P < w.heap.size) (np : ∀ P o, p = some ⟨P, o, none⟩ → P < w.heap.size) (ld : LD w p n ((lackL xs ys).take 300)) :
    Calls Tryd.prog 60 #[.func (.func 81) #[] #[.pointer (some ⟨w.heap.size + 1, 0, none⟩)], .pointer (some ⟨BA, 0, none⟩), .pointer (some ⟨BB, 0, none⟩)] ((w.alloc (.cells #[.slice p n cap, .int .i64 st, .int .i64 0, .bool false, .bool false] 88)).alloc (.cells #[.pointer (some ⟨w.heap.size, 0, none⟩)] 86)) fun r w' => WalkP w w' r p n cap st := by
  have a : Apart [] w ((w.alloc (.cells #[.slice p n cap, .int .i64 st, .int .i64 0, .bool false, .bool false] 88)).alloc (.cells #[.pointer (some ⟨w.heap.size, 0, none⟩)] 86)) := ((Apart.refl _ _).alloc _).alloc _
  have hs : ((w.alloc (.cells #[.slice p n cap, .int .i64 st, .int .i64 0, .bool false, .bool false] 88)).alloc (.cells #[.pointer (some ⟨w.heap.size, 0, none⟩)] 86)).heap.size = w.heap.size + 2 := by simp
  have r0 : ((w.alloc (.cells #[.slice p n cap, .int .i64 st, .int .i64 0, .bool false, .bool false] 88)).alloc (.cells #[.pointer (some ⟨w.heap.size, 0, none⟩)] 86)).heap[w.heap.size]? = some (.cells #[.slice p n cap, .int .i64 st, .int .i64 0, .bool false, .bool false] 88 (0, 0)) := by
    rw [((Apart.refl [] (w.alloc (.cells #[.slice p n cap, .int .i64 st, .int .i64 0, .bool false, .bool false] 88))).alloc (.cells #[.pointer (some ⟨w.heap.size, 0, none⟩)] 86)).block w.heap.size (by simp) (by simp)]
    rw [World.alloc.eq_1]; simp
  have r1 : ((w.alloc (.cells #[.slice p n cap, .int .i64 st, .int .i64 0, .bool false, .bool false] 88)).alloc (.cells #[.pointer (some ⟨w.heap.size, 0, none⟩)] 86)).heap[w.heap.size + 1]? = some (.cells #[.pointer (some ⟨w.heap.size, 0, none⟩)] 86 (0, 0)) := by
    have := World.alloc_heap_new (w.alloc (.cells #[.slice p n cap, .int .i64 st, .int .i64 0, .bool false, .bool false] 88)) (.cells #[.pointer (some ⟨w.heap.size, 0, none⟩)] 86)
    rwa [World.size_alloc] at this
  generalize (w.alloc (.cells #[.slice p n cap, .int .i64 st, .int .i64 0, .bool false, .bool false] 88)).alloc (.cells #[.pointer (some ⟨w.heap.size, 0, none⟩)] 86) = V at *
  have hO : V.cell? ⟨w.heap.size + 1, 0, none⟩ = some (.pointer (some ⟨w.heap.size, 0, none⟩)) := by rw [cell_of_row _ _ _ _ _ _ r1]; rfl
  have ltA := block_lt_of_cell hA
  have ltB := block_lt_of_cell hB
  have lt0 := T.lt
  simp only at ltA ltB
  refine (miss_walk81 V (T.kept0 a) (w.heap.size + 1) BA BB (fun k => k = w.heap.size) (Jw w.heap.size p n cap st ((lackL xs ys).take 300)) (Jl w.heap.size p n cap st (lackL xs ys)) (client_w _ _ _ _ _ _ _) pa pb na ca nb cb xs ys (a.keep hA) (a.keep hB) (la.kept0 a) (lb.kept0 a) ka kb (fun k hk => by omega) (fun h => by omega) (fun h => by omega) (fun h => by omega) (fun P o e h => by have := npa P o e; omega) (fun P o e h => by have := npb P o e; omega) ?_ ⟨⟨r0⟩, by simp, List.nil_prefix⟩).mono ?_
  · intro pre d W hj f
    exact gone2_ok (f.cell hO (by show ¬ w.heap.size + 1 = w.heap.size; omega)) (by omega) ((ld.kept0 a).fr f (fun P o e h => by have := np P o e; omega)) (fun P o e => by have := np P o e; omega) hj d
  · rintro r w' ⟨hv, hj, f⟩
    refine ⟨hv, ?_, f.cell hO (by show ¬ w.heap.size + 1 = w.heap.size; omega), fr_apart a f (Nat.le_refl _)⟩
    rcases hj with hj | ⟨pre, hp, hj⟩
    · refine ⟨(lackL xs ys).length, false, hj.wk, .inr ?_⟩
      have h1 := ld.len
      have h2 := hj.lt
      rw [List.length_take] at h1
      omega
    · obtain ⟨⟨k, bd, hw, hb⟩⟩ := hj
      rw [hb hp] at hw
      exact ⟨k, true, hw, .inl rfl⟩
end Go.Proofs.YtmdjjigiipboaaaDoor.ds
namespace Go.Proofs.YtmdjjigiipboaaaDoor.ds
open Go.ChangeShapes Go.WideShapes Go.ChangeAt Go.RowKit
set_option linter.unusedVariables false
set_option linter.unusedSimpArgs false
attribute [local go_sem] eqf
theorem OwnD.plt {w w' : World} {p : Option Addr} {n cap : Nat} {ds : List (Int × Int)} (h : OwnD w w' p n cap ds) : ∀ P o, p = some ⟨P, o, none⟩ → w.heap.size ≤ P ∧ P < w'.heap.size := by
  intro P o e
  obtain ⟨hl2, ⟨hv, hz⟩ | ⟨G, cap', cur, hv, hb, hr, hle, _⟩⟩ := id h.own
  · simp only [Value.slice.injEq] at hv
    rw [e] at hv; cases hv.1
  · simp only [Value.slice.injEq] at hv
    obtain ⟨hv1, _, _⟩ := hv
    rw [e] at hv1
    have : P = G := by injection hv1 with h1; injection h1
    subst this
    exact ⟨h.new P (by rw [e]; rfl), lt_of_heap hr⟩
theorem apart_fr {w w' : World} {G : Nat} (a : Apart [G] w w') : Fr (fun k => ¬ k = G) w w' := ⟨a.os, a.tape, a.output, a.size, fun k hk h => a.block k hk (by simpa using h)⟩
theorem Fr.two {w w' w2 : World} {G H : Nat} (f : Fr (fun k => ¬ k = G) w w') (g : Fr (fun k => ¬ k = H) w' w2) : Fr (fun k => ¬ (k = G ∨ k = H)) w w2 :=
  ⟨g.os.trans f.os, g.tape.trans f.tape, g.output.trans f.output, Nat.le_trans f.size g.size, fun k hk h => (g.block k (Nat.lt_of_lt_of_le hk f.size) (fun e => h (.inr e))).trans (f.block k hk (fun e => h (.inl e)))⟩
set_option maxHeartbeats 20000000 in
set_option maxRecDepth 100000 in
theorem gone_ok (w : World) (T : Tab w) (K gap st dn dc : Int) (pa pb : Option Addr) (na ca nb cb : Nat) (xs ys : List S) (la : L w pa na xs) (lb : L w pb nb ys) (hna : na ≤ 1048576) (hnb : nb ≤ 1048576) :
    Calls Tryd.prog 69 #[.agg #[.int .i64 K, .int .i64 gap, .int .i64 st, .slice pa na ca, .slice pb nb cb, .int .i64 dn, .int .i64 dc]] w fun r w' => r = .returned (.bool true) ∧ Apart [] w w' := by
  have hm := boxO w (.int .i64 K) (.int .i64 gap) (.int .i64 st) (.slice pa na ca) (.slice pb nb cb) (.int .i64 dn) (.int .i64 dc)
  have B : Apart [] w (w.alloc (.cells #[.int .i64 K, .int .i64 gap, .int .i64 st, .slice pa na ca, .slice pb nb cb, .int .i64 dn, .int .i64 dc] 48)) := (Apart.refl _ _).alloc _
  go_enter Tryd.func69, Tryd.ntmps69
  go_wp2_with fail
  generalize w.alloc (.cells #[.int .i64 K, .int .i64 gap, .int .i64 st, .slice pa na ca, .slice pb nb cb, .int .i64 dn, .int .i64 dc] 48) = V at *
  replace T := T.kept0 B
  replace la := la.kept0 B
  replace lb := lb.kept0 B
  refine (rmissing3_ok la lb).mono ?_
  rintro r w1 ⟨⟨p, n, cap, rfl, od⟩⟩
  dsimp only
  have OD := hid od
  have D1 := od.ap
  clear od
  obtain ⟨q0, q1, q2, q3, q4, q5, q6⟩ := hm _ D1
  go_wp2_with fail
  refine (lent_own (la.kept0 D1) (by omega)).mono ?_
  rintro r w2 ⟨⟨G1, c1, cur1, rfl, hc1, l1, x1, a2, g1, row1, sz1⟩⟩
  dsimp only
  clear q0 q1 q2 q3 q4 q5 q6
  have D2 := D1.trans a2
  obtain ⟨q0, q1, q2, q3, q4, q5, q6⟩ := hm _ D2
  go_wp2_with fail
  refine (lent_own (lb.kept0 D2) (by omega)).mono ?_
  rintro r w3 ⟨⟨G2, c2, cur2, rfl, hc2, l2, x2, a3, g2, row2, sz2⟩⟩
  dsimp only
  clear q0 q1 q2 q3 q4 q5 q6
  have D3 := D2.trans a3
  have hn1 : na ≤ c1 := by omega
  have hn2 : nb ≤ c2 := by omega
  have L1 := hid (l1.kept0 a3)
  have X1 := hid (x1.kept0 a3)
  have L2 := hid l2
  have X2 := hid x2
  have R1 := hid ((a3.block G1 (lt_of_heap row1) (by simp)).trans row1)
  have R2 := hid row2
  have OD3 := hid (OD.out.kept (a2.trans a3))
  have HG1 := hid g1
  have HG2 := hid g2
  have HG12 : Hid (G1 < w2.heap.size) := lt_of_heap row1
  have HG23 : Hid (G2 < w3.heap.size) := lt_of_heap row2
  have HA3 := hid a3
  have HA2 := hid a2
  have HD1 := hid D1
  have LA := hid (la.kept0 D3)
  have LB := hid (lb.kept0 D3)
  have HT := hid (T.kept0 D3)
  clear l1 x1 l2 x2 row1 row2 g1 g2
  go_wp2_with fail
  have aD : Apart [] w3 w3.drew := (Apart.refl _ _).drew
  have D4 := D3.trans aD
  have r3 : ∀ W, Apart [] V W → W.cell? ⟨w.heap.size, 3, none⟩ = some (.slice pa na ca) := fun W a => (hm W a).2.2.2.1
  have r4 : ∀ W, Apart [] V W → W.cell? ⟨w.heap.size, 4, none⟩ = some (.slice pb nb cb) := fun W a => (hm W a).2.2.2.2.1
  refine wp_region_held_drew (S := fun W => Apart [] V W) (by kernel_rfl) D4 (fun hHeld => ?_)
  refine wpAnyH_take (i := 0) (oi := ⟨some 22, _, _, _, _, _⟩) (v := (.slice (some ⟨G1, 0, none⟩) (na + 2 : Nat) c1)) rfl (by kernel_rfl) (by kernel_rfl) (by kernel_rfl) (fun _ _ _ h => h) (Or.inl ⟨by rfl, ?_⟩) (by assumption) ?_
  · intro W hSW; go_simp
  simp only [Act.put, List.setIfInBounds_toArray, List.set_cons_zero, List.set_cons_succ]
  refine wpAnyH_take (i := 1) (oi := ⟨some 23, _, _, _, _, _⟩) (v := (.pointer (some ⟨w.heap.size, 3, none⟩))) rfl (by kernel_rfl) (by kernel_rfl) (by kernel_rfl) (fun _ _ _ h => h) (Or.inl ⟨by rfl, ?_⟩) (by assumption) ?_
  · intro W hSW; go_simp
  simp only [Act.put, List.setIfInBounds_toArray, List.set_cons_zero, List.set_cons_succ]
  refine wpAnyH_take (i := 2) (oi := ⟨some 24, _, _, _, _, _⟩) (v := (.slice pa na ca)) rfl (by kernel_rfl) (by kernel_rfl) (by kernel_rfl) (fun _ _ _ h => h) (Or.inl ⟨by rfl, ?_⟩) (by assumption) ?_
  · intro W hSW; go_simp
  simp only [Act.put, List.setIfInBounds_toArray, List.set_cons_zero, List.set_cons_succ]
  refine wpAnyH_take (i := 3) (oi := ⟨some 25, _, _, _, _, _⟩) (v := (.int .i64 na)) rfl (by kernel_rfl) (by kernel_rfl) (by kernel_rfl) (fun _ _ _ h => h) (Or.inl ⟨by rfl, ?_⟩) (by assumption) ?_
  · intro W hSW; go_simp
  simp only [Act.put, List.setIfInBounds_toArray, List.set_cons_zero, List.set_cons_succ]
  refine wpAnyH_take (i := 4) (oi := ⟨some 26, _, _, _, _, _⟩) (v := (.slice (some ⟨G1, 0, none⟩) na c1)) rfl (by kernel_rfl) (by kernel_rfl) (by kernel_rfl) (fun _ _ _ h => h) (Or.inl ⟨by rfl, ?_⟩) (by assumption) ?_
  · intro W hSW; go_simp
  simp only [Act.put, List.setIfInBounds_toArray, List.set_cons_zero, List.set_cons_succ]
  refine wpAnyH_take (i := 5) (oi := ⟨some 27, _, _, _, _, _⟩) (v := (.slice (some ⟨G2, 0, none⟩) (nb + 2 : Nat) c2)) rfl (by kernel_rfl) (by kernel_rfl) (by kernel_rfl) (fun _ _ _ h => h) (Or.inl ⟨by rfl, ?_⟩) (by assumption) ?_
  · intro W hSW; go_simp
  simp only [Act.put, List.setIfInBounds_toArray, List.set_cons_zero, List.set_cons_succ]
  refine wpAnyH_take (i := 6) (oi := ⟨some 28, _, _, _, _, _⟩) (v := (.pointer (some ⟨w.heap.size, 4, none⟩))) rfl (by kernel_rfl) (by kernel_rfl) (by kernel_rfl) (fun _ _ _ h => h) (Or.inl ⟨by rfl, ?_⟩) (by assumption) ?_
  · intro W hSW; go_simp
  simp only [Act.put, List.setIfInBounds_toArray, List.set_cons_zero, List.set_cons_succ]
  refine wpAnyH_take (i := 7) (oi := ⟨some 29, _, _, _, _, _⟩) (v := (.slice pb nb cb)) rfl (by kernel_rfl) (by kernel_rfl) (by kernel_rfl) (fun _ _ _ h => h) (Or.inl ⟨by rfl, ?_⟩) (by assumption) ?_
  · intro W hSW; go_simp
  simp only [Act.put, List.setIfInBounds_toArray, List.set_cons_zero, List.set_cons_succ]
  refine wpAnyH_take (i := 8) (oi := ⟨some 30, _, _, _, _, _⟩) (v := (.int .i64 nb)) rfl (by kernel_rfl) (by kernel_rfl) (by kernel_rfl) (fun _ _ _ h => h) (Or.inl ⟨by rfl, ?_⟩) (by assumption) ?_
  · intro W hSW; go_simp
  simp only [Act.put, List.setIfInBounds_toArray, List.set_cons_zero, List.set_cons_succ]
  refine wpAnyH_take (i := 9) (oi := ⟨some 31, _, _, _, _, _⟩) (v := (.slice (some ⟨G2, 0, none⟩) nb c2)) rfl (by kernel_rfl) (by kernel_rfl) (by kernel_rfl) (fun _ _ _ h => h) (Or.inl ⟨by rfl, ?_⟩) (by assumption) ?_
  · intro W hSW; go_simp
  simp only [Act.put, List.setIfInBounds_toArray, List.set_cons_zero, List.set_cons_succ]
  refine wpAnyH_ready (rs := [10]) (by kernel_rfl) (by simp) ?_
  refine AllReadyH.cons rfl (fun KK hKK => ?_) AllReadyH.nil
  go_simp
  refine (missing_ok _ _ _ _ _ _ _ _ _ (X1.out.kept0 aD) (X2.out.kept0 aD) (pl_some _ _ _ _) (pl_some _ _ _ _)).mono ?_
  rintro r w4 ⟨⟨BA, BB, pa', na', ca', pb', nb', cb', rfl, hBA, hBB, hA, hB, la', lb', npa, npb, a4⟩⟩
  dsimp only
  have D5 := D4.trans a4
  refine hKK.out _ _ (by assumption) (fun hHeld => ?_)
  clear hKK KK
  refine wpAnyH_take (i := 11) (oi := ⟨some 6, _, _, _, _, _⟩) (v := (.func (.func 60) #[] #[.pointer (some ⟨BA, 0, none⟩), .pointer (some ⟨BB, 0, none⟩)])) rfl (by kernel_rfl) (by kernel_rfl) (by kernel_rfl) (fun _ _ _ h => h) (Or.inl ⟨by rfl, ?_⟩) (by assumption) ?_
  · intro W hSW; go_simp
  simp only [Act.put, List.setIfInBounds_toArray, List.set_cons_zero, List.set_cons_succ]
  refine wpAnyH_done (by kernel_rfl) ?_ _
  clear r3 r4
  obtain ⟨q0, q1, q2, q3, q4, q5, q6⟩ := hm _ D5
  have A34 : Apart [] w3 w4 := aD.trans a4
  have OD4 := hid (OD3.out.kept A34)
  have HN3 : n ≤ 300 := OD4.out.le3
  have HOP := hid (fun P o e => (OD.out.plt P o e).2 : ∀ P o, p = some ⟨P, o, none⟩ → P < w1.heap.size)
  have HLA := hid la'
  have HLB := hid lb'
  have HPA := hid npa
  have HPB := hid npb
  have HHA := hid hA
  have HHB := hid hB
  have HBA := hid hBA
  have HBB := hid hBB
  have H34 := hid A34
  clear la' lb' npa npb hA hB hBA hBB A34 a4 aD D4 OD3
  go_wp2_with fail
  refine (walk1 w4 (HT.out.kept0 H34.out) BA BB p pa' pb' n cap na' ca' nb' cb' st (norm xs) (norm ys) HHA.out HHB.out HLA.out HLB.out (norm_ok xs) (norm_ok ys) (fun P o e => (HPA.out P o e).2) (fun P o e => (HPB.out P o e).2) (fun P o e => (OD4.out.plt P o e).2) (OD4.out.LD (by omega))).mono ?_
  rintro r w5 ⟨⟨v5, rfl⟩, ⟨k5, en5, wk5, he5⟩, hO5, a5⟩
  dsimp only
  clear q0 q1 q2 q3 q4 q5 q6
  have D6 := D5.trans a5
  have WK5 := hid wk5
  have HE5 := hid he5
  clear wk5 he5
  obtain ⟨q0, q1, q2, q3, q4, q5, q6⟩ := hm _ D6
  go_wp2_with fail
  refine (well_ok WK5.out HE5.out).mono ?_
  rintro r w6 ⟨rfl, a6⟩
  dsimp only
  clear q0 q1 q2 q3 q4 q5 q6
  have E6 := (H34.out.trans a5).trans a6
  obtain ⟨q0, q1, q2, q3, q4, q5, q6⟩ := hm _ (D6.trans a6)
  go_wp2_with fail
  refine (lent_ok (LA.out.kept0 E6) (by omega)).mono ?_
  rintro r w7 ⟨⟨G3, c3, rfl, _, l3, _, a7⟩⟩
  dsimp only
  clear q0 q1 q2 q3 q4 q5 q6
  have E7 := E6.trans a7
  go_wp2_with fail
  refine (same_as (L1.out.kept0 E7) l3 true ⟨by simp⟩).mono ?_
  rintro r w8 ⟨rfl, a8⟩
  dsimp only
  have E8 := E7.trans a8
  obtain ⟨q0, q1, q2, q3, q4, q5, q6⟩ := hm _ (D3.trans E8)
  go_wp2_with fail
  refine (lent_ok (LB.out.kept0 E8) (by omega)).mono ?_
  rintro r w9 ⟨⟨G4, c4, rfl, _, l4, _, a9⟩⟩
  dsimp only
  clear q0 q1 q2 q3 q4 q5 q6
  have E9 := E8.trans a9
  go_wp2_with fail
  refine (same_as (L2.out.kept0 E9) l4 true ⟨by simp⟩).mono ?_
  rintro r w10 ⟨rfl, a10⟩
  dsimp only
  have E10 := hid (E9.trans a10)
  have E4 := hid ((((((a5.trans a6).trans a7).trans a8).trans a9).trans a10) : Apart [] w4 w10)
  have R10 := hid ((E10.out.block G1 (Nat.lt_of_lt_of_le HG12.out HA3.out.size) (by simp)).trans R1.out)
  have S10 := hid ((E10.out.block G2 HG23.out (by simp)).trans R2.out)
  have HL3 := hid L1.out.lim
  clear l3 l4 a5 a6 a7 a8 a9 a10 E6 E7 E8 E9 hO5
  go_wp2_with fail
  go_loopw [8] (fun v wr => ∃ i : Nat, i ≤ na + 2 ∧ v = .int .i64 i ∧ Apart [G1] w10 wr ∧ ∃ cur, wr.heap[G1]? = some (.cells cur 52 (0, 0)) ∧ (na + 2) * 3 ≤ cur.size) (fun v _ => na + 2 - (intOf v).toNat)
  case atStart => exact ⟨0, Nat.zero_le _, rfl, Apart.refl _ _, _, R10.out, sz1⟩
  case round =>
    obtain ⟨i, hi, rfl, aR, cur, row, sz⟩ := hrel
    by_cases hlt : i < na + 2
    · obtain ⟨u0, e0⟩ := cell_ex row (j := i * 3) (by omega)
      obtain ⟨u1, e1⟩ := cell_ex row (j := i * 3 + 1) (by omega)
      obtain ⟨u2, e2⟩ := cell_ex row (j := i * 3 + 2) (by omega)
      have z0 := frozen_of_row wr G1 (i * 3) _ _ row
      have z1 := frozen_of_row wr G1 (i * 3 + 1) _ _ row
      have z2 := frozen_of_row wr G1 (i * 3 + 2) _ _ row
      have HROW := hid row
      clear row
      have hwi : IntKind.i64.wrap ((i : Int) + 1) = (i : Int) + 1 := by rw [IntKind.wrap_i64]; omega
      go_wp2
      obtain ⟨cur', row', sz'⟩ := put3 HROW.out (i * 3) (.int .i64 ((i : Int) % 8)) (.int .i64 3) (.int .u64 0)
      go_roundw
      case rel => exact ⟨i + 1, by omega, by simp, ((aR.setCell (by simp) _).setCell (by simp) _).setCell (by simp) _, cur', row', by omega⟩
      case measure => simp [intOf]; omega
    · have RA := hid aR
      clear row sz aR cur
      obtain rfl : i = na + 2 := by omega
      have S11 := hid ((RA.out.block G2 (lt_of_heap S10.out) (by simp only [List.mem_singleton]; have h1 := HG2.out; have h2 := HG12.out; intro h; subst h; exact absurd h2 (Nat.not_lt.2 h1))).trans S10.out)
      go_wp2_with fail
      obtain ⟨w11, hw11⟩ : ∃ W, W = wr := ⟨_, rfl⟩
      rw [← hw11] at RA S11 ⊢
      clear hw11 wr
      go_loopw [9] (fun v wr => ∃ i : Nat, i ≤ nb + 2 ∧ v = .int .i64 i ∧ Apart [G2] w11 wr ∧ ∃ cur, wr.heap[G2]? = some (.cells cur 52 (0, 0)) ∧ (nb + 2) * 3 ≤ cur.size) (fun v _ => nb + 2 - (intOf v).toNat)
      case atStart => exact ⟨0, Nat.zero_le _, rfl, Apart.refl _ _, _, S11.out, sz2⟩
      case round =>
        obtain ⟨i, hi, rfl, aR, cur, row, sz⟩ := hrel
        by_cases hlt2 : i < nb + 2
        · obtain ⟨u0, e0⟩ := cell_ex row (j := i * 3) (by omega)
          obtain ⟨u1, e1⟩ := cell_ex row (j := i * 3 + 1) (by omega)
          obtain ⟨u2, e2⟩ := cell_ex row (j := i * 3 + 2) (by omega)
          have z0 := frozen_of_row wr G2 (i * 3) _ _ row
          have z1 := frozen_of_row wr G2 (i * 3 + 1) _ _ row
          have z2 := frozen_of_row wr G2 (i * 3 + 2) _ _ row
          have HROW := hid row
          clear row
          have hwi : IntKind.i64.wrap ((i : Int) + 1) = (i : Int) + 1 := by rw [IntKind.wrap_i64]; omega
          go_wp2
          obtain ⟨cur', row', sz'⟩ := put3 HROW.out (i * 3) (.int .i64 0) (.int .i64 0) (.int .u64 0)
          go_roundw
          case rel => exact ⟨i + 1, by omega, by simp, ((aR.setCell (by simp) _).setCell (by simp) _).setCell (by simp) _, cur', row', by omega⟩
          case measure => simp [intOf]; omega
        · have RB := hid aR
          clear row sz aR cur
          obtain ⟨w12, hw12⟩ : ∃ W, W = wr := ⟨_, rfl⟩
          rw [← hw12] at RB ⊢
          clear hw12 wr
          have F := hid ((apart_fr RA.out).two (apart_fr RB.out))
          have s3 : Hid (w2.heap.size ≤ w3.heap.size) := HA3.out.size
          have s4 : Hid (w3.heap.size ≤ w4.heap.size) := H34.out.size
          have s10 : Hid (w4.heap.size ≤ w10.heap.size) := E4.out.size
          have s12 : Hid (w10.heap.size ≤ w12.heap.size) := F.out.size
          have s1 : Hid (w1.heap.size ≤ w2.heap.size) := HA2.out.size
          have g1 : Hid (w1.heap.size ≤ G1) := HG1.out
          have g2 : Hid (w2.heap.size ≤ G2) := HG2.out
          have g12 : Hid (G1 < w2.heap.size) := HG12.out
          have g23 : Hid (G2 < w3.heap.size) := HG23.out
          have K3 : ∀ k, w3.heap.size ≤ k → ¬ (k = G1 ∨ k = G2) := fun k hk h => by
            have := g12.out; have := g23.out; have := s3.out; omega
          have K1 : ∀ k, k < w1.heap.size → ¬ (k = G1 ∨ k = G2) := fun k hk h => by
            have := g1.out; have := g2.out; have := s1.out; omega
          have HK3 := hid K3
          have HK1 := hid K1
          clear K3 K1
          have T12 := hid (F.out.tab ((HT.out.kept0 H34.out).kept0 E4.out) (HK1.out 0 (Nat.lt_of_lt_of_le T.lt HD1.out.size)))
          have hA12 := hid (F.out.cell (E4.out.keep HHA.out) (HK3.out BA (by first | exact HBA.out | exact Nat.le_trans (Nat.le_of_eq rfl) HBA.out)))
          have hB12 := hid (F.out.cell (E4.out.keep HHB.out) (HK3.out BB (by first | exact HBB.out | exact Nat.le_trans (Nat.le_of_eq rfl) HBB.out)))
          have la12 := hid ((HLA.out.kept0 E4.out).fr F.out (fun P o e => HK3.out P (HPA.out P o e).1))
          have lb12 := hid ((HLB.out.kept0 E4.out).fr F.out (fun P o e => HK3.out P (HPB.out P o e).1))
          have ld12 := hid (((OD4.out.LD (by omega)).kept0 E4.out).fr F.out (fun P o e => HK1.out P (HOP.out P o e)))
          go_wp2_with fail
          refine (walk2 w12 T12.out BA BB p pa' pb' n cap na' ca' nb' cb' (-1) (norm xs) (norm ys) hA12.out hB12.out la12.out lb12.out (norm_ok xs) (norm_ok ys) (fun P o e => by have := (HPA.out P o e).2; have := s10.out; have := s12.out; omega) (fun P o e => by have := (HPB.out P o e).2; have := s10.out; have := s12.out; omega) (fun P o e => by have := (OD4.out.plt P o e).2; have := s10.out; have := s12.out; omega) ld12.out).mono ?_
          rintro r w13 ⟨⟨v13, rfl⟩, ⟨k13, en13, wk13, he13⟩, hO13, a13⟩
          dsimp only
          have WK13 := hid wk13
          have HE13 := hid he13
          clear wk13 he13
          go_wp2_with fail
          refine (well_ok WK13.out HE13.out).mono ?_
          rintro r w14 ⟨rfl, a14⟩
          dsimp only
          go_wp2
          go_ret
          have b0 : Apart [] w w10 := B.trans (D3.trans E10.out)
          have sw : w.heap.size ≤ w1.heap.size := Nat.le_trans B.size HD1.out.size
          have b1 : Apart [] w w11 := b0.trans' RA.out (fun y hy => .inr (by simp at hy; have := g1.out; omega))
          have b2 : Apart [] w w12 := b1.trans' RB.out (fun y hy => .inr (by simp at hy; have := g2.out; have := s1.out; omega))
          exact ⟨rfl, b2.trans (a13.trans a14)⟩
end Go.Proofs.YtmdjjigiipboaaaDoor.ds
namespace Go.Proofs.YtmdjjigiipboaaaDoor.ds
open Go.ChangeShapes Go.WideShapes Go.ChangeAt Go.RowKit
set_option linter.unusedVariables false
set_option linter.unusedSimpArgs false
set_option maxHeartbeats 20000000 in
set_option maxRecDepth 100000 in
theorem played_8 (w : World) (T : Tab w) (gap st dn dc : Int) (pa pb : Option Addr) (na ca nb cb : Nat) (xs ys : List S) (la : L w pa na xs) (lb : L w pb nb ys) (hna : na ≤ 1048576) (hnb : nb ≤ 1048576) :
    Calls Tryd.prog 54 #[.agg #[.int .i64 8, .int .i64 gap, .int .i64 st, .slice pa na ca, .slice pb nb cb, .int .i64 dn, .int .i64 dc]] w fun r w' => r = .returned (.bool true) ∧ Apart [] w w' := by
  have hm := boxO w (.int .i64 8) (.int .i64 gap) (.int .i64 st) (.slice pa na ca) (.slice pb nb cb) (.int .i64 dn) (.int .i64 dc)
  have B : Apart [] w (w.alloc (.cells #[.int .i64 8, .int .i64 gap, .int .i64 st, .slice pa na ca, .slice pb nb cb, .int .i64 dn, .int .i64 dc] 48)) := (Apart.refl _ _).alloc _
  go_enter Tryd.func54, Tryd.ntmps54
  go_wp2_with fail
  generalize w.alloc (.cells #[.int .i64 8, .int .i64 gap, .int .i64 st, .slice pa na ca, .slice pb nb cb, .int .i64 dn, .int .i64 dc] 48) = V at *
  replace T := T.kept0 B
  replace la := la.kept0 B
  replace lb := lb.kept0 B
  refine (lent_ok la (by omega)).mono ?_
  rintro r w1 ⟨⟨G1, c1, rfl, hc1, l1, x1, a1⟩⟩
  dsimp only
  obtain ⟨q0, q1, q2, q3, q4, q5, q6⟩ := hm _ a1
  replace T := T.kept0 a1
  replace la := la.kept0 a1
  replace lb := lb.kept0 a1
  have D := a1
  go_wp2_with fail
  refine (lent_ok lb (by omega)).mono ?_
  rintro r w2 ⟨⟨G2, c2, rfl, hc2, l2, x2, a2⟩⟩
  dsimp only
  replace D := D.trans a2
  clear q0 q1 q2 q3 q4 q5 q6
  obtain ⟨q0, q1, q2, q3, q4, q5, q6⟩ := hm _ D
  replace T := T.kept0 a2
  replace la := la.kept0 a2
  replace lb := lb.kept0 a2
  replace l1 := l1.kept0 a2
  replace x1 := x1.kept0 a2
  have hn1 : na ≤ c1 := by omega
  have hn2 : nb ≤ c2 := by omega
  go_wp2_with fail
  refine (gone_ok w2 T 8 gap st dn dc pa pb na ca nb cb xs ys la lb hna hnb).mono ?_
  rintro r w3 ⟨rfl, a3⟩
  dsimp only
  have D3 := D.trans a3
  have aS := a3
  clear q0 q1 q2 q3 q4 q5 q6
  obtain ⟨s0, s1, s2, s3, s4, s5, s6⟩ := hm _ D3
  replace la := la.kept0 aS
  replace lb := lb.kept0 aS
  replace l1 := l1.kept0 aS
  replace l2 := l2.kept0 aS
  go_wp2_with fail
  refine (lent_ok la (by omega)).mono ?_
  rintro r z1 ⟨⟨G3, c3, rfl, _, l3, _, b1⟩⟩
  dsimp only
  go_wp2_with fail
  refine (same_as (l1.kept0 b1) l3 true ⟨by simp⟩).mono ?_
  rintro r z2 ⟨rfl, b2⟩
  dsimp only
  have b3 := b1.trans b2
  obtain ⟨t0, t1, t2, t3, t4, t5, t6⟩ := hm _ (D3.trans b3)
  go_wp2_with fail
  refine (lent_ok (lb.kept0 b3) (by omega)).mono ?_
  rintro r z3 ⟨⟨G4, c4, rfl, _, l4, _, b4⟩⟩
  dsimp only
  go_wp2_with fail
  refine (same_as ((l2.kept0 b3).kept0 b4) l4 true ⟨by simp⟩).mono ?_
  rintro r z4 ⟨rfl, b5⟩
  dsimp only
  go_wp2
  go_ret
  exact ⟨rfl, B.trans (D3.trans (b3.trans (b4.trans b5)))⟩
theorem step8 : StepOk 8 8 := by
  intro w o T ok h1 h2
  have hk : o.kind = 8 := by omega
  rw [hk]
  exact played_8 w T o.gap o.stop o.dn o.dc o.pa o.pb o.na o.ca o.nb o.cb o.xs o.ys ok.la ok.lb ok.sa ok.sb
end Go.Proofs.YtmdjjigiipboaaaDoor.ds
