import Derived.Test.YtdbeeikjngnnnaaGreatChecked
import Derived.WalkKit
import Derived.ProofKit
import Derived.OpenShut
import Derived.Deep.QuietTactic
import Derived.BigQuiet
import Derived.BigRegion
import Derived.Laws.CopyOwn
import Derived.Laws.IdiomCopy
import Derived.WalkSmall
import Derived.Laws.ResultCell
import Derived.Laws.AppendOwnNone
import Derived.Deep.RegionHeld
import Derived.Deep.DeepAppendRoom
import Derived.Great.BuildSlice
import Derived.Deep.CutBlock
import Derived.Deep.RegionLaw
import Derived.ArgAppend
import Derived.Laws.Strings
import Derived.Laws.StructEq
import Derived.Below
import Derived.Deep.MidRow
import Derived.Great.Ranges
import Derived.Deep.RegionHeld3
import Derived.Laws.NewBlocks
import Derived.OrdersHeld
import Derived.Stop.BytesEq
import Derived.Laws.BytesString
import Derived.Lib.ConvBytes
import Derived.Laws.BitsAllLaws
import Derived.WalkLawsBesides
import Derived.Lib.Bytealg
import Derived.Laws.Externs
import Derived.Lib.SliceRun
import Derived.Lib.AppendZerosOnto
import Derived.Lib.AppendStr
import Derived.Lib.SlBytesConst
import Derived.Sort.Walk0
import Derived.Laws.Cover1
import Derived.Lib.Strings
import Derived.Lib.MinMaxS
import GoSem.Claim
import GoSem.ClaimJoined
import GoSem.ClaimMapViews
import Derived.JoinedTies
import Derived.KernelRfl
import Derived.JoinedCond
import Derived.ShutString
import Derived.ChangeOld
import Derived.Carry
import Derived.ChangeSlices
import Derived.Deep.Slices
import Derived.Deep.DeepHandedRow
import Derived.RowKit
import Derived.ChangeShapes
import Derived.SizedLaws
import Derived.ChangeMaps5
import Derived.Sort.WalkA
import Derived.Test.YtdbeeikjngnnnaaGreatRows
import Derived.Test.YtdbeeikjngnnnaaGreatM2
namespace Go.Proofs.YtdbeeikjngnnnaaGreat.ty
open Go.ChangeShapes Go.WideShapes Go.ChangeAt Go.RowKit
set_option linter.unusedVariables false
set_option linter.unusedSimpArgs false
theorem size91 : (Tryz.prog.info? 104).map (·.size) = some 9 := by kernel_rfl
theorem size95 : (Tryz.prog.info? 108).map (·.size) = some 3 := by kernel_rfl
/-- a variable that is written at once -/
theorem put_new {w : World} {z cs : Array Value} {T : Nat} : ((w.alloc (.cells z T)).setRow w.heap.size cs).heap[w.heap.size]? = some (.cells cs T (0, 0)) := setRow_heap _ _ _ _ _ _ (heap_alloc_new w _)
theorem put_apart {w : World} {z cs : Array Value} {T : Nat} : Apart [] w ((w.alloc (.cells z T)).setRow w.heap.size cs) := ((Apart.refl [] w).alloc _).trans' (apart_setRow _ w.heap.size cs) (by intro y hy; simp at hy; rw [hy]; exact .inr (Nat.le_refl _))
theorem ta11 (x : Value) (w : World) : (Instr.typeAssert (.iface 101 x) 68 101 true).run Tryz.prog w = .ok (.tuple #[x, .bool true]) w := by kernel_rfl
theorem ta21 (x : Value) (w : World) : (Instr.typeAssert (.iface 104 x) 68 101 true).run Tryz.prog w = .ok (.tuple #[.agg #[.int .i64 0, .int .i64 0, .int .i64 0, .int .i64 0, .int .i64 0, .int .i64 0, .int .i64 0, .int .i64 0, .int .i64 0, .int .i64 0, .int .i64 0, .int .i64 0, .int .i64 0, .int .i64 0, .int .i64 0, .int .i64 0], .bool false]) w := by kernel_rfl
theorem ta22 (x : Value) (w : World) : (Instr.typeAssert (.iface 104 x) 68 104 true).run Tryz.prog w = .ok (.tuple #[x, .bool true]) w := by kernel_rfl
theorem ta31 (x : Value) (w : World) : (Instr.typeAssert (.iface 106 x) 68 101 true).run Tryz.prog w = .ok (.tuple #[.agg #[.int .i64 0, .int .i64 0, .int .i64 0, .int .i64 0, .int .i64 0, .int .i64 0, .int .i64 0, .int .i64 0, .int .i64 0, .int .i64 0, .int .i64 0, .int .i64 0, .int .i64 0, .int .i64 0, .int .i64 0, .int .i64 0], .bool false]) w := by kernel_rfl
theorem ta32 (x : Value) (w : World) : (Instr.typeAssert (.iface 106 x) 68 104 true).run Tryz.prog w = .ok (.tuple #[.agg #[.int .i64 0, .int .i64 0, .int .i64 0, .int .i64 0, .int .i64 0, .int .i64 0, .int .i64 0, .int .i64 0, .slice none 0 0], .bool false]) w := by kernel_rfl
theorem ta33 (x : Value) (w : World) : (Instr.typeAssert (.iface 106 x) 68 106 true).run Tryz.prog w = .ok (.tuple #[x, .bool true]) w := by kernel_rfl
theorem ta41 (x : Value) (w : World) : (Instr.typeAssert (.iface 108 x) 68 101 true).run Tryz.prog w = .ok (.tuple #[.agg #[.int .i64 0, .int .i64 0, .int .i64 0, .int .i64 0, .int .i64 0, .int .i64 0, .int .i64 0, .int .i64 0, .int .i64 0, .int .i64 0, .int .i64 0, .int .i64 0, .int .i64 0, .int .i64 0, .int .i64 0, .int .i64 0], .bool false]) w := by kernel_rfl
theorem ta42 (x : Value) (w : World) : (Instr.typeAssert (.iface 108 x) 68 104 true).run Tryz.prog w = .ok (.tuple #[.agg #[.int .i64 0, .int .i64 0, .int .i64 0, .int .i64 0, .int .i64 0, .int .i64 0, .int .i64 0, .int .i64 0, .slice none 0 0], .bool false]) w := by kernel_rfl
theorem ta43 (x : Value) (w : World) : (Instr.typeAssert (.iface 108 x) 68 106 true).run Tryz.prog w = .ok (.tuple #[.agg #[.int .i64 0, .int .i64 0, .int .i64 0, .int .i64 0, .int .i64 0, .int .i64 0, .int .i64 0, .int .i64 0, .int .i64 0, .int .i64 0, .int .i64 0, .int .i64 0, .int .i64 0, .int .i64 0, .int .i64 0, .int .i64 0], .bool false]) w := by kernel_rfl
theorem ta44 (x : Value) (w : World) : (Instr.typeAssert (.iface 108 x) 68 108 true).run Tryz.prog w = .ok (.tuple #[x, .bool true]) w := by kernel_rfl
set_option maxRecDepth 100000 in
theorem merged_11 {w : World} {cs ds : Array Value} {P : Array Value → World → Prop} (hn : cs.size = 16) (h1 : cs.all (·.oneCell') = true) (hm : ds.size = 16) (h2 : ds.all (·.oneCell') = true) (hc : ∀ wx, Apart [] w wx → Calls Tryz.prog 53 #[.agg cs, .agg ds] wx fun r w' => ∃ es, r = .returned (.agg es) ∧ Apart [] wx w' ∧ P es w') : Calls Tryz.prog 42 #[.iface 101 (.agg cs), .iface 101 (.agg ds)] w fun r w' => ∃ es, r = .returned (.tuple #[.iface 101 (.agg es), .int .i64 0]) ∧ Apart [] w w' ∧ P es w' := by
  have Hn := hid hn
  have H1 := hid h1
  have Hm := hid hm
  have H2 := hid h2
  have HC := hid hc
  clear hn h1 hm h2 hc
  have q1 := fun x wx => ta11 x wx
  go_enter Tryz.func42, Tryz.ntmps42
  go_wp2_with (first
    | (refine wpList_store_row rfl 101 _ _ rfl w.heap.size cs rfl rfl 101 _ (heap_alloc_new w _) (by rw [size88, Hn.out]) (by simp [Hn.out]) (H1.out) ?_
       have HB1 := hid (put_new (w := w) (z := #[.int .i64 0, .int .i64 0, .int .i64 0, .int .i64 0, .int .i64 0, .int .i64 0, .int .i64 0, .int .i64 0, .int .i64 0, .int .i64 0, .int .i64 0, .int .i64 0, .int .i64 0, .int .i64 0, .int .i64 0, .int .i64 0]) (cs := cs) (T := 101))
       have HS1 := hid (put_apart (w := w) (z := #[.int .i64 0, .int .i64 0, .int .i64 0, .int .i64 0, .int .i64 0, .int .i64 0, .int .i64 0, .int .i64 0, .int .i64 0, .int .i64 0, .int .i64 0, .int .i64 0, .int .i64 0, .int .i64 0, .int .i64 0, .int .i64 0]) (cs := cs) (T := 101))
       obtain ⟨X1, HX1⟩ : ∃ X, X = w.heap.size := ⟨_, rfl⟩
       rw [← HX1] at HB1 HS1 ⊢
       generalize (w.alloc (.cells #[.int .i64 0, .int .i64 0, .int .i64 0, .int .i64 0, .int .i64 0, .int .i64 0, .int .i64 0, .int .i64 0, .int .i64 0, .int .i64 0, .int .i64 0, .int .i64 0, .int .i64 0, .int .i64 0, .int .i64 0, .int .i64 0] 101)).setRow X1 cs = w2 at *
       clear HX1)
    | (refine wpList_store_row rfl 101 _ _ rfl w2.heap.size ds rfl rfl 101 _ (heap_alloc_new w2 _) (by rw [size88, Hm.out]) (by simp [Hm.out]) (H2.out) ?_
       have HB2 := hid (put_new (w := w2) (z := #[.int .i64 0, .int .i64 0, .int .i64 0, .int .i64 0, .int .i64 0, .int .i64 0, .int .i64 0, .int .i64 0, .int .i64 0, .int .i64 0, .int .i64 0, .int .i64 0, .int .i64 0, .int .i64 0, .int .i64 0, .int .i64 0]) (cs := ds) (T := 101))
       have HS2 := hid (put_apart (w := w2) (z := #[.int .i64 0, .int .i64 0, .int .i64 0, .int .i64 0, .int .i64 0, .int .i64 0, .int .i64 0, .int .i64 0, .int .i64 0, .int .i64 0, .int .i64 0, .int .i64 0, .int .i64 0, .int .i64 0, .int .i64 0, .int .i64 0]) (cs := ds) (T := 101))
       obtain ⟨X2, HX2⟩ : ∃ X, X = w2.heap.size := ⟨_, rfl⟩
       rw [← HX2] at HB2 HS2 ⊢
       generalize (w2.alloc (.cells #[.int .i64 0, .int .i64 0, .int .i64 0, .int .i64 0, .int .i64 0, .int .i64 0, .int .i64 0, .int .i64 0, .int .i64 0, .int .i64 0, .int .i64 0, .int .i64 0, .int .i64 0, .int .i64 0, .int .i64 0, .int .i64 0] 101)).setRow X2 ds = w4 at *
       clear HX2)
    | refine wpList_load_row rfl 101 _ rfl X1 rfl 101 cs (0, 0) _ (keep0 HS2.out HB1.out) Tryz.underlying101 rfl (by rw [size88, Hn.out]) ?_
    | refine wpList_load_row rfl 101 _ rfl X2 rfl 101 ds (0, 0) _ HB2.out Tryz.underlying101 rfl (by rw [size88, Hm.out]) ?_
    | (go_at_call 53; refine (HC.out _ (HS1.out.trans HS2.out)).mono ?_; rintro _ w5 ⟨es, rfl, a5, p5⟩; have H5 := hid (And.intro a5 p5); clear a5 p5))
  go_ret2
  exact ⟨es, rfl, (HS1.out.trans HS2.out).trans H5.out.1, H5.out.2⟩
set_option maxRecDepth 100000 in
theorem merged_22 {w : World} {cs ds : Array Value} {P : Array Value → World → Prop} (hn : cs.size = 9) (h1 : cs.all (·.oneCell') = true) (hm : ds.size = 9) (h2 : ds.all (·.oneCell') = true) (hc : ∀ wx, Apart [] w wx → Calls Tryz.prog 54 #[.agg cs, .agg ds] wx fun r w' => ∃ es, r = .returned (.agg es) ∧ Apart [] wx w' ∧ P es w') : Calls Tryz.prog 42 #[.iface 104 (.agg cs), .iface 104 (.agg ds)] w fun r w' => ∃ es, r = .returned (.tuple #[.iface 104 (.agg es), .int .i64 0]) ∧ Apart [] w w' ∧ P es w' := by
  have Hn := hid hn
  have H1 := hid h1
  have Hm := hid hm
  have H2 := hid h2
  have HC := hid hc
  clear hn h1 hm h2 hc
  have q1 := fun x wx => ta21 x wx
  have q2 := fun x wx => ta22 x wx
  go_enter Tryz.func42, Tryz.ntmps42
  go_wp2_with (first
    | (refine wpList_store_row rfl 104 _ _ rfl w.heap.size cs rfl rfl 104 _ (heap_alloc_new w _) (by rw [size91, Hn.out]) (by simp [Hn.out]) (H1.out) ?_
       have HB1 := hid (put_new (w := w) (z := #[.int .i64 0, .int .i64 0, .int .i64 0, .int .i64 0, .int .i64 0, .int .i64 0, .int .i64 0, .int .i64 0, .slice none 0 0]) (cs := cs) (T := 104))
       have HS1 := hid (put_apart (w := w) (z := #[.int .i64 0, .int .i64 0, .int .i64 0, .int .i64 0, .int .i64 0, .int .i64 0, .int .i64 0, .int .i64 0, .slice none 0 0]) (cs := cs) (T := 104))
       obtain ⟨X1, HX1⟩ : ∃ X, X = w.heap.size := ⟨_, rfl⟩
       rw [← HX1] at HB1 HS1 ⊢
       generalize (w.alloc (.cells #[.int .i64 0, .int .i64 0, .int .i64 0, .int .i64 0, .int .i64 0, .int .i64 0, .int .i64 0, .int .i64 0, .slice none 0 0] 104)).setRow X1 cs = w2 at *
       clear HX1)
    | (refine wpList_store_row rfl 104 _ _ rfl w2.heap.size ds rfl rfl 104 _ (heap_alloc_new w2 _) (by rw [size91, Hm.out]) (by simp [Hm.out]) (H2.out) ?_
       have HB2 := hid (put_new (w := w2) (z := #[.int .i64 0, .int .i64 0, .int .i64 0, .int .i64 0, .int .i64 0, .int .i64 0, .int .i64 0, .int .i64 0, .slice none 0 0]) (cs := ds) (T := 104))
       have HS2 := hid (put_apart (w := w2) (z := #[.int .i64 0, .int .i64 0, .int .i64 0, .int .i64 0, .int .i64 0, .int .i64 0, .int .i64 0, .int .i64 0, .slice none 0 0]) (cs := ds) (T := 104))
       obtain ⟨X2, HX2⟩ : ∃ X, X = w2.heap.size := ⟨_, rfl⟩
       rw [← HX2] at HB2 HS2 ⊢
       generalize (w2.alloc (.cells #[.int .i64 0, .int .i64 0, .int .i64 0, .int .i64 0, .int .i64 0, .int .i64 0, .int .i64 0, .int .i64 0, .slice none 0 0] 104)).setRow X2 ds = w4 at *
       clear HX2)
    | refine wpList_load_row rfl 104 _ rfl X1 rfl 104 cs (0, 0) _ (keep0 HS2.out HB1.out) Tryz.underlying104 rfl (by rw [size91, Hn.out]) ?_
    | refine wpList_load_row rfl 104 _ rfl X2 rfl 104 ds (0, 0) _ HB2.out Tryz.underlying104 rfl (by rw [size91, Hm.out]) ?_
    | (go_at_call 54; refine (HC.out _ (HS1.out.trans HS2.out)).mono ?_; rintro _ w5 ⟨es, rfl, a5, p5⟩; have H5 := hid (And.intro a5 p5); clear a5 p5))
  go_ret2
  exact ⟨es, rfl, (HS1.out.trans HS2.out).trans H5.out.1, H5.out.2⟩
set_option maxRecDepth 100000 in
theorem merged_33 {w : World} {cs ds : Array Value} {P : Array Value → World → Prop} (hn : cs.size = 16) (h1 : cs.all (·.oneCell') = true) (hm : ds.size = 16) (h2 : ds.all (·.oneCell') = true) (hc : ∀ wx, Apart [] w wx → Calls Tryz.prog 55 #[.agg cs, .agg ds] wx fun r w' => ∃ es, r = .returned (.agg es) ∧ Apart [] wx w' ∧ P es w') : Calls Tryz.prog 42 #[.iface 106 (.agg cs), .iface 106 (.agg ds)] w fun r w' => ∃ es, r = .returned (.tuple #[.iface 106 (.agg es), .int .i64 0]) ∧ Apart [] w w' ∧ P es w' := by
  have Hn := hid hn
  have H1 := hid h1
  have Hm := hid hm
  have H2 := hid h2
  have HC := hid hc
  clear hn h1 hm h2 hc
  have q1 := fun x wx => ta31 x wx
  have q2 := fun x wx => ta32 x wx
  have q3 := fun x wx => ta33 x wx
  go_enter Tryz.func42, Tryz.ntmps42
  go_wp2_with (first
    | (refine wpList_store_row rfl 106 _ _ rfl w.heap.size cs rfl rfl 106 _ (heap_alloc_new w _) (by rw [size93, Hn.out]) (by simp [Hn.out]) (H1.out) ?_
       have HB1 := hid (put_new (w := w) (z := #[.int .i64 0, .int .i64 0, .int .i64 0, .int .i64 0, .int .i64 0, .int .i64 0, .int .i64 0, .int .i64 0, .int .i64 0, .int .i64 0, .int .i64 0, .int .i64 0, .int .i64 0, .int .i64 0, .int .i64 0, .int .i64 0]) (cs := cs) (T := 106))
       have HS1 := hid (put_apart (w := w) (z := #[.int .i64 0, .int .i64 0, .int .i64 0, .int .i64 0, .int .i64 0, .int .i64 0, .int .i64 0, .int .i64 0, .int .i64 0, .int .i64 0, .int .i64 0, .int .i64 0, .int .i64 0, .int .i64 0, .int .i64 0, .int .i64 0]) (cs := cs) (T := 106))
       obtain ⟨X1, HX1⟩ : ∃ X, X = w.heap.size := ⟨_, rfl⟩
       rw [← HX1] at HB1 HS1 ⊢
       generalize (w.alloc (.cells #[.int .i64 0, .int .i64 0, .int .i64 0, .int .i64 0, .int .i64 0, .int .i64 0, .int .i64 0, .int .i64 0, .int .i64 0, .int .i64 0, .int .i64 0, .int .i64 0, .int .i64 0, .int .i64 0, .int .i64 0, .int .i64 0] 106)).setRow X1 cs = w2 at *
       clear HX1)
    | (refine wpList_store_row rfl 106 _ _ rfl w2.heap.size ds rfl rfl 106 _ (heap_alloc_new w2 _) (by rw [size93, Hm.out]) (by simp [Hm.out]) (H2.out) ?_
       have HB2 := hid (put_new (w := w2) (z := #[.int .i64 0, .int .i64 0, .int .i64 0, .int .i64 0, .int .i64 0, .int .i64 0, .int .i64 0, .int .i64 0, .int .i64 0, .int .i64 0, .int .i64 0, .int .i64 0, .int .i64 0, .int .i64 0, .int .i64 0, .int .i64 0]) (cs := ds) (T := 106))
       have HS2 := hid (put_apart (w := w2) (z := #[.int .i64 0, .int .i64 0, .int .i64 0, .int .i64 0, .int .i64 0, .int .i64 0, .int .i64 0, .int .i64 0, .int .i64 0, .int .i64 0, .int .i64 0, .int .i64 0, .int .i64 0, .int .i64 0, .int .i64 0, .int .i64 0]) (cs := ds) (T := 106))
       obtain ⟨X2, HX2⟩ : ∃ X, X = w2.heap.size := ⟨_, rfl⟩
       rw [← HX2] at HB2 HS2 ⊢
       generalize (w2.alloc (.cells #[.int .i64 0, .int .i64 0, .int .i64 0, .int .i64 0, .int .i64 0, .int .i64 0, .int .i64 0, .int .i64 0, .int .i64 0, .int .i64 0, .int .i64 0, .int .i64 0, .int .i64 0, .int .i64 0, .int .i64 0, .int .i64 0] 106)).setRow X2 ds = w4 at *
       clear HX2)
    | refine wpList_load_row rfl 106 _ rfl X1 rfl 106 cs (0, 0) _ (keep0 HS2.out HB1.out) Tryz.underlying106 rfl (by rw [size93, Hn.out]) ?_
    | refine wpList_load_row rfl 106 _ rfl X2 rfl 106 ds (0, 0) _ HB2.out Tryz.underlying106 rfl (by rw [size93, Hm.out]) ?_
    | (go_at_call 55; refine (HC.out _ (HS1.out.trans HS2.out)).mono ?_; rintro _ w5 ⟨es, rfl, a5, p5⟩; have H5 := hid (And.intro a5 p5); clear a5 p5))
  go_ret2
  exact ⟨es, rfl, (HS1.out.trans HS2.out).trans H5.out.1, H5.out.2⟩
set_option maxRecDepth 100000 in
theorem merged_44 {w : World} {cs ds : Array Value} {P : Array Value → World → Prop} (hn : cs.size = 3) (h1 : cs.all (·.oneCell') = true) (hm : ds.size = 3) (h2 : ds.all (·.oneCell') = true) (hc : ∀ wx, Apart [] w wx → Calls Tryz.prog 56 #[.agg cs, .agg ds] wx fun r w' => ∃ es, r = .returned (.agg es) ∧ Apart [] wx w' ∧ P es w') : Calls Tryz.prog 42 #[.iface 108 (.agg cs), .iface 108 (.agg ds)] w fun r w' => ∃ es, r = .returned (.tuple #[.iface 108 (.agg es), .int .i64 0]) ∧ Apart [] w w' ∧ P es w' := by
  have Hn := hid hn
  have H1 := hid h1
  have Hm := hid hm
  have H2 := hid h2
  have HC := hid hc
  clear hn h1 hm h2 hc
  have q1 := fun x wx => ta41 x wx
  have q2 := fun x wx => ta42 x wx
  have q3 := fun x wx => ta43 x wx
  have q4 := fun x wx => ta44 x wx
  go_enter Tryz.func42, Tryz.ntmps42
  go_wp2_with (first
    | (refine wpList_store_row rfl 108 _ _ rfl w.heap.size cs rfl rfl 108 _ (heap_alloc_new w _) (by rw [size95, Hn.out]) (by simp [Hn.out]) (H1.out) ?_
       have HB1 := hid (put_new (w := w) (z := #[.int .i64 0, .int .i64 0, .string ⟨#[]⟩]) (cs := cs) (T := 108))
       have HS1 := hid (put_apart (w := w) (z := #[.int .i64 0, .int .i64 0, .string ⟨#[]⟩]) (cs := cs) (T := 108))
       obtain ⟨X1, HX1⟩ : ∃ X, X = w.heap.size := ⟨_, rfl⟩
       rw [← HX1] at HB1 HS1 ⊢
       generalize (w.alloc (.cells #[.int .i64 0, .int .i64 0, .string ⟨#[]⟩] 108)).setRow X1 cs = w2 at *
       clear HX1)
    | (refine wpList_store_row rfl 108 _ _ rfl w2.heap.size ds rfl rfl 108 _ (heap_alloc_new w2 _) (by rw [size95, Hm.out]) (by simp [Hm.out]) (H2.out) ?_
       have HB2 := hid (put_new (w := w2) (z := #[.int .i64 0, .int .i64 0, .string ⟨#[]⟩]) (cs := ds) (T := 108))
       have HS2 := hid (put_apart (w := w2) (z := #[.int .i64 0, .int .i64 0, .string ⟨#[]⟩]) (cs := ds) (T := 108))
       obtain ⟨X2, HX2⟩ : ∃ X, X = w2.heap.size := ⟨_, rfl⟩
       rw [← HX2] at HB2 HS2 ⊢
       generalize (w2.alloc (.cells #[.int .i64 0, .int .i64 0, .string ⟨#[]⟩] 108)).setRow X2 ds = w4 at *
       clear HX2)
    | refine wpList_load_row rfl 108 _ rfl X1 rfl 108 cs (0, 0) _ (keep0 HS2.out HB1.out) Tryz.underlying108 rfl (by rw [size95, Hn.out]) ?_
    | refine wpList_load_row rfl 108 _ rfl X2 rfl 108 ds (0, 0) _ HB2.out Tryz.underlying108 rfl (by rw [size95, Hm.out]) ?_
    | (go_at_call 56; refine (HC.out _ (HS1.out.trans HS2.out)).mono ?_; rintro _ w5 ⟨es, rfl, a5, p5⟩; have H5 := hid (And.intro a5 p5); clear a5 p5))
  go_ret2
  exact ⟨es, rfl, (HS1.out.trans HS2.out).trans H5.out.1, H5.out.2⟩
end Go.Proofs.YtdbeeikjngnnnaaGreat.ty
