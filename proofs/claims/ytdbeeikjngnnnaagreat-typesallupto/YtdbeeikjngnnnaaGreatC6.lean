import Derived.Test.YtdbeeikjngnnnaaGreatC3
namespace Go.Proofs.YtdbeeikjngnnnaaGreat.ty
open Go.ChangeShapes Go.WideShapes Go.ChangeAt Go.RowKit
set_option linter.unusedVariables false
set_option linter.unusedSimpArgs false
set_option maxRecDepth 100000
set_option maxHeartbeats 8000000
theorem size91 : (Tryz.prog.info? 104).map (·.size) = some 9 := by kernel_rfl
theorem size95 : (Tryz.prog.info? 108).map (·.size) = some 3 := by kernel_rfl
theorem put_new {w : World} {z cs : Array Value} {T : Nat} : ((w.alloc (.cells z T)).setRow w.heap.size cs).heap[w.heap.size]? = some (.cells cs T (0, 0)) := setRow_heap _ _ _ _ _ _ (heap_alloc_new w _)
theorem put_apart {w : World} {z cs : Array Value} {T : Nat} : Apart [] w ((w.alloc (.cells z T)).setRow w.heap.size cs) := ((Apart.refl [] w).alloc _).trans' (apart_setRow _ w.heap.size cs) (by intro y hy; simp at hy; rw [hy]; exact .inr (Nat.le_refl _))
theorem ta11 (x : Value) (w : World) : (Instr.typeAssert (.iface 101 x) 68 101 true).run Tryz.prog w = .ok (.tuple #[x, .bool true]) w := by kernel_rfl
theorem ta21 (x : Value) (w : World) : (Instr.typeAssert (.iface 104 x) 68 101 true).run Tryz.prog w = .ok (.tuple #[.agg #[.int .i64 0, .int .i64 0, .int .i64 0, .int .i64 0, .int .i64 0, .int .i64 0, .int .i64 0, .int .i64 0, .int .i64 0, .int .i64 0, .int .i64 0, .int .i64 0, .int .i64 0, .int .i64 0, .int .i64 0, .int .i64 0], .bool false]) w := by kernel_rfl
theorem ta22 (x : Value) (w : World) : (Instr.typeAssert (.iface 104 x) 68 104 true).run Tryz.prog w = .ok (.tuple #[x, .bool true]) w := by kernel_rfl
theorem ta31 (x : Value) (w : World) : (Instr.typeAssert (.iface 106 x) 68 101 true).run Tryz.prog w = .ok (.tuple #[.agg #[.int .i64 0, .int .i64 0, .int .i64 0, .int .i64 0, .int .i64 0, .int .i64 0, .int .i64 0, .int .i64 0, .int .i64 0, .int .i64 0, .int .i64 0, .int .i64 0, .int .i64 0, .int .i64 0, .int .i64 0, .int .i64 0], .bool false]) w := by kernel_rfl
theorem ta32 (x : Value) (w : World) : (Instr.typeAssert (.iface 106 x) 68 104 true).run Tryz.prog w = .ok (.tuple #[.agg #[.int .i64 0, .int .i64 0, .int .i64 0, .int .i64 0, .int .i64 0, .int .i64 0, .int .i64 0, .int .i64 0, .slice none 0 0], .bool false]) w := by kernel_rfl
theorem ta33 (x : Value) (w : World) : (Instr.typeAssert (.iface 106 x) 68 106 true).run Tryz.prog w = .ok (.tuple #[x, .bool true]) w := by kernel_rfl
theorem ta41 (x : Value) (w : World) : (Instr.typeAssert (.iface 108 x) 68 101 true).run Tryz.prog w = .ok (.tuple #[.agg #[.int .i64 0, .int .i64 0, .int .i64 0, .int .i64 0, .int .i64 0, .int .i64 0, .int .i64 0, .int .i64 0, .int .i64 0, .int .i64 0, .int .i64 0, .int .i64 0, .int .i64 0, .int .i64 0, .int .i64 0, .int .i64 0], .bool false]) w := by kernel_rfl
theorem ta42 (x : Value) (w : World) : (Instr.typeAssert (.iface 108 x) 68 104 true).run Tryz.prog w = .ok (.tuple #[.agg #[.int .i64 0, .int .i64 0, .int .i64 0, .int .i64 0, .int .i64 0, .int .i64 0, .int .i64 0, .int .i64 0, .slice none 0 0], .bool false]) w := by kernel_rfl
theorem ta43 (x : Value) (w : World) : (Instr.typeAssert (.iface 108 x) 68 106 true).run Tryz.prog w = .ok (.tuple #[.agg #[.int .i64 0, .int .i64 0, .int .i64 0, .int .i64 0, .int .i64 0, .int .i64 0, .int .i64 0, .int .i64 0, .int .i64 0, .int .i64 0, .int .i64 0, .int .i64 0, .int .i64 0, .int .i64 0, .int .i64 0, .int .i64 0], .bool false]) w := by kernel_rfl
theorem ta44 (x : Value) (w : World) : (Instr.typeAssert (.iface 108 x) 68 108 true).run Tryz.prog w = .ok (.tuple #[x, .bool true]) w := by kernel_rfl
theorem merged_11 {w : World} {cs ds : Array Value} {P : Array Value → World → Prop} (hn : cs.size = 16) (h1 : cs.all (·.oneCell') = true) (hm : ds.size = 16) (h2 : ds.all (·.oneCell') = true) (hc : ∀ wx, Apart [] w wx → Calls Tryz.prog 53 #[.agg cs, .agg ds] wx fun r w' => ∃ es, r = .returned (.agg es) ∧ Apart [] wx w' ∧ P es w') : Calls Tryz.prog 42 #[.iface 101 (.agg cs), .iface 101 (.agg ds)] w fun r w' => ∃ es, r = .returned (.tuple #[.iface 101 (.agg es), .int .i64 0]) ∧ Apart [] w w' ∧ P es w' := by
 have Hn := hid hn
 have H1 := hid h1
 have Hm := hid hm
 have H2 := hid h2
 have HC := hid hc
 clear hn h1 hm h2 hc
 have q1 := fun x wx => ta11 x wx
 go_enter Tryz.func42, Tryz.ntmps42
 go_wp2_with (first
  | (refine wpList_store_row rfl 101 _ _ rfl w.heap.size cs rfl rfl 101 _ (heap_alloc_new w _) (by rw [size88, Hn.out]) (by simp [Hn.out]) (H1.out) ?_
     have HB1 := hid (put_new (w := w) (z := #[.int .i64 0, .int .i64 0, .int .i64 0, .int .i64 0, .int .i64 0, .int .i64 0, .int .i64 0, .int .i64 0, .int .i64 0, .int .i64 0, .int .i64 0, .int .i64 0, .int .i64 0, .int .i64 0, .int .i64 0, .int .i64 0]) (cs := cs) (T := 101))
     have HS1 := hid (put_apart (w := w) (z := #[.int .i64 0, .int .i64 0, .int .i64 0, .int .i64 0, .int .i64 0, .int .i64 0, .int .i64 0, .int .i64 0, .int .i64 0, .int .i64 0, .int .i64 0, .int .i64 0, .int .i64 0, .int .i64 0, .int .i64 0, .int .i64 0]) (cs := cs) (T := 101))
     obtain ⟨X1, HX1⟩ : ∃ X, X = w.heap.size := ⟨_, rfl⟩
     rw [← HX1] at HB1 HS1 ⊢
     generalize (w.alloc (.cells #[.int .i64 0, .int .i64 0, .int .i64 0, .int .i64 0, .int .i64 0, .int .i64 0, .int .i64 0, .int .i64 0, .int .i64 0, .int .i64 0, .int .i64 0, .int .i64 0, .int .i64 0, .int .i64 0, .int .i64 0, .int .i64 0] 101)).setRow X1 cs = w2 at *
     clear HX1)
  | (refine wpList_store_row rfl 101 _ _ rfl w2.heap.size ds rfl rfl 101 _ (heap_alloc_new w2 _) (by rw [size88, Hm.out]) (by simp [Hm.out]) (H2.out) ?_
     have HB2 := hid (put_new (w := w2) (z := #[.int .i64 0, .int .i64 0, .int .i64 0, .int .i64 0, .int .i64 0, .int .i64 0, .int .i64 0, .int .i64 0, .int .i64 0, .int .i64 0, .int .i64 0, .int .i64 0, .int .i64 0, .int .i64 0, .int .i64 0, .int .i64 0]) (cs := ds) (T := 101))
     have HS2 := hid (put_apart (w := w2) (z := #[.int .i64 0, .int .i64 0, .int .i64 0, .int .i64 0, .int .i64 0, .int .i64 0, .int .i64 0, .int .i64 0, .int .i64 0, .int .i64 0, .int .i64 0, .int .i64 0, .int .i64 0, .int .i64 0, .int .i64 0, .int .i64 0]) (cs := ds) (T := 101))
     obtain ⟨X2, HX2⟩ : ∃ X, X = w2.heap.size := ⟨_, rfl⟩
     rw [← HX2] at HB2 HS2 ⊢
     generalize (w2.alloc (.cells #[.int .i64 0, .int .i64 0, .int .i64 0, .int .i64 0, .int .i64 0, .int .i64 0, .int .i64 0, .int .i64 0, .int .i64 0, .int .i64 0, .int .i64 0, .int .i64 0, .int .i64 0, .int .i64 0, .int .i64 0, .int .i64 0] 101)).setRow X2 ds = w4 at *
     clear HX2)
  | refine wpList_load_row rfl 101 _ rfl X1 rfl 101 cs (0, 0) _ (keep0 HS2.out HB1.out) Tryz.underlying101 rfl (by rw [size88, Hn.out]) ?_
  | refine wpList_load_row rfl 101 _ rfl X2 rfl 101 ds (0, 0) _ HB2.out Tryz.underlying101 rfl (by rw [size88, Hm.out]) ?_
  | (go_at_call 53; refine (HC.out _ (HS1.out.trans HS2.out)).mono ?_; rintro _ w5 ⟨es, rfl, a5, p5⟩; have H5 := hid (And.intro a5 p5); clear a5 p5))
 go_ret2
 exact ⟨es, rfl, (HS1.out.trans HS2.out).trans H5.out.1, H5.out.2⟩
theorem merged_22 {w : World} {cs ds : Array Value} {P : Array Value → World → Prop} (hn : cs.size = 9) (h1 : cs.all (·.oneCell') = true) (hm : ds.size = 9) (h2 : ds.all (·.oneCell') = true) (hc : ∀ wx, Apart [] w wx → Calls Tryz.prog 54 #[.agg cs, .agg ds] wx fun r w' => ∃ es, r = .returned (.agg es) ∧ Apart [] wx w' ∧ P es w') : Calls Tryz.prog 42 #[.iface 104 (.agg cs), .iface 104 (.agg ds)] w fun r w' => ∃ es, r = .returned (.tuple #[.iface 104 (.agg es), .int .i64 0]) ∧ Apart [] w w' ∧ P es w' := by
 have Hn := hid hn
 have H1 := hid h1
 have Hm := hid hm
 have H2 := hid h2
 have HC := hid hc
 clear hn h1 hm h2 hc
 have q1 := fun x wx => ta21 x wx
 have q2 := fun x wx => ta22 x wx
 go_enter Tryz.func42, Tryz.ntmps42
 go_wp2_with (first
  | (refine wpList_store_row rfl 104 _ _ rfl w.heap.size cs rfl rfl 104 _ (heap_alloc_new w _) (by rw [size91, Hn.out]) (by simp [Hn.out]) (H1.out) ?_
     have HB1 := hid (put_new (w := w) (z := #[.int .i64 0, .int .i64 0, .int .i64 0, .int .i64 0, .int .i64 0, .int .i64 0, .int .i64 0, .int .i64 0, .slice none 0 0]) (cs := cs) (T := 104))
     have HS1 := hid (put_apart (w := w) (z := #[.int .i64 0, .int .i64 0, .int .i64 0, .int .i64 0, .int .i64 0, .int .i64 0, .int .i64 0, .int .i64 0, .slice none 0 0]) (cs := cs) (T := 104))
     obtain ⟨X1, HX1⟩ : ∃ X, X = w.heap.size := ⟨_, rfl⟩
     rw [← HX1] at HB1 HS1 ⊢
     generalize (w.alloc (.cells #[.int .i64 0, .int .i64 0, .int .i64 0, .int .i64 0, .int .i64 0, .int .i64 0, .int .i64 0, .int .i64 0, .slice none 0 0] 104)).setRow X1 cs = w2 at *
     clear HX1)
  | (refine wpList_store_row rfl 104 _ _ rfl w2.heap.size ds rfl rfl 104 _ (heap_alloc_new w2 _) (by rw [size91, Hm.out]) (by simp [Hm.out]) (H2.out) ?_
     have HB2 := hid (put_new (w := w2) (z := #[.int .i64 0, .int .i64 0, .int .i64 0, .int .i64 0, .int .i64 0, .int .i64 0, .int .i64 0, .int .i64 0, .slice none 0 0]) (cs := ds) (T := 104))
     have HS2 := hid (put_apart (w := w2) (z := #[.int .i64 0, .int .i64 0, .int .i64 0, .int .i64 0, .int .i64 0, .int .i64 0, .int .i64 0, .int .i64 0, .slice none 0 0]) (cs := ds) (T := 104))
     obtain ⟨X2, HX2⟩ : ∃ X, X = w2.heap.size := ⟨_, rfl⟩
     rw [← HX2] at HB2 HS2 ⊢
     generalize (w2.alloc (.cells #[.int .i64 0, .int .i64 0, .int .i64 0, .int .i64 0, .int .i64 0, .int .i64 0, .int .i64 0, .int .i64 0, .slice none 0 0] 104)).setRow X2 ds = w4 at *
     clear HX2)
  | refine wpList_load_row rfl 104 _ rfl X1 rfl 104 cs (0, 0) _ (keep0 HS2.out HB1.out) Tryz.underlying104 rfl (by rw [size91, Hn.out]) ?_
  | refine wpList_load_row rfl 104 _ rfl X2 rfl 104 ds (0, 0) _ HB2.out Tryz.underlying104 rfl (by rw [size91, Hm.out]) ?_
  | (go_at_call 54; refine (HC.out _ (HS1.out.trans HS2.out)).mono ?_; rintro _ w5 ⟨es, rfl, a5, p5⟩; have H5 := hid (And.intro a5 p5); clear a5 p5))
 go_ret2
 exact ⟨es, rfl, (HS1.out.trans HS2.out).trans H5.out.1, H5.out.2⟩
theorem merged_33 {w : World} {cs ds : Array Value} {P : Array Value → World → Prop} (hn : cs.size = 16) (h1 : cs.all (·.oneCell') = true) (hm : ds.size = 16) (h2 : ds.all (·.oneCell') = true) (hc : ∀ wx, Apart [] w wx → Calls Tryz.prog 55 #[.agg cs, .agg ds] wx fun r w' => ∃ es, r = .returned (.agg es) ∧ Apart [] wx w' ∧ P es w') : Calls Tryz.prog 42 #[.iface 106 (.agg cs), .iface 106 (.agg ds)] w fun r w' => ∃ es, r = .returned (.tuple #[.iface 106 (.agg es), .int .i64 0]) ∧ Apart [] w w' ∧ P es w' := by
 have Hn := hid hn
 have H1 := hid h1
 have Hm := hid hm
 have H2 := hid h2
 have HC := hid hc
 clear hn h1 hm h2 hc
 have q1 := fun x wx => ta31 x wx
 have q2 := fun x wx => ta32 x wx
 have q3 := fun x wx => ta33 x wx
 go_enter Tryz.func42, Tryz.ntmps42
 go_wp2_with (first
  | (refine wpList_store_row rfl 106 _ _ rfl w.heap.size cs rfl rfl 106 _ (heap_alloc_new w _) (by rw [size93, Hn.out]) (by simp [Hn.out]) (H1.out) ?_
     have HB1 := hid (put_new (w := w) (z := #[.int .i64 0, .int .i64 0, .int .i64 0, .int .i64 0, .int .i64 0, .int .i64 0, .int .i64 0, .int .i64 0, .int .i64 0, .int .i64 0, .int .i64 0, .int .i64 0, .int .i64 0, .int .i64 0, .int .i64 0, .int .i64 0]) (cs := cs) (T := 106))
     have HS1 := hid (put_apart (w := w) (z := #[.int .i64 0, .int .i64 0, .int .i64 0, .int .i64 0, .int .i64 0, .int .i64 0, .int .i64 0, .int .i64 0, .int .i64 0, .int .i64 0, .int .i64 0, .int .i64 0, .int .i64 0, .int .i64 0, .int .i64 0, .int .i64 0]) (cs := cs) (T := 106))
     obtain ⟨X1, HX1⟩ : ∃ X, X = w.heap.size := ⟨_, rfl⟩
     rw [← HX1] at HB1 HS1 ⊢
     generalize (w.alloc (.cells #[.int .i64 0, .int .i64 0, .int .i64 0, .int .i64 0, .int .i64 0, .int .i64 0, .int .i64 0, .int .i64 0, .int .i64 0, .int .i64 0, .int .i64 0, .int .i64 0, .int .i64 0, .int .i64 0, .int .i64 0, .int .i64 0] 106)).setRow X1 cs = w2 at *
     clear HX1)
  | (refine wpList_store_row rfl 106 _ _ rfl w2.heap.size ds rfl rfl 106 _ (heap_alloc_new w2 _) (by rw [size93, Hm.out]) (by simp [Hm.out]) (H2.out) ?_
     have HB2 := hid (put_new (w := w2) (z := #[.int .i64 0, .int .i64 0, .int .i64 0, .int .i64 0, .int .i64 0, .int .i64 0, .int .i64 0, .int .i64 0, .int .i64 0, .int .i64 0, .int .i64 0, .int .i64 0, .int .i64 0, .int .i64 0, .int .i64 0, .int .i64 0]) (cs := ds) (T := 106))
     have HS2 := hid (put_apart (w := w2) (z := #[.int .i64 0, .int .i64 0, .int .i64 0, .int .i64 0, .int .i64 0, .int .i64 0, .int .i64 0, .int .i64 0, .int .i64 0, .int .i64 0, .int .i64 0, .int .i64 0, .int .i64 0, .int .i64 0, .int .i64 0, .int .i64 0]) (cs := ds) (T := 106))
     obtain ⟨X2, HX2⟩ : ∃ X, X = w2.heap.size := ⟨_, rfl⟩
     rw [← HX2] at HB2 HS2 ⊢
     generalize (w2.alloc (.cells #[.int .i64 0, .int .i64 0, .int .i64 0, .int .i64 0, .int .i64 0, .int .i64 0, .int .i64 0, .int .i64 0, .int .i64 0, .int .i64 0, .int .i64 0, .int .i64 0, .int .i64 0, .int .i64 0, .int .i64 0, .int .i64 0] 106)).setRow X2 ds = w4 at *
     clear HX2)
  | refine wpList_load_row rfl 106 _ rfl X1 rfl 106 cs (0, 0) _ (keep0 HS2.out HB1.out) Tryz.underlying106 rfl (by rw [size93, Hn.out]) ?_
  | refine wpList_load_row rfl 106 _ rfl X2 rfl 106 ds (0, 0) _ HB2.out Tryz.underlying106 rfl (by rw [size93, Hm.out]) ?_
  | (go_at_call 55; refine (HC.out _ (HS1.out.trans HS2.out)).mono ?_; rintro _ w5 ⟨es, rfl, a5, p5⟩; have H5 := hid (And.intro a5 p5); clear a5 p5))
 go_ret2
 exact ⟨es, rfl, (HS1.out.trans HS2.out).trans H5.out.1, H5.out.2⟩
theorem merged_44 {w : World} {cs ds : Array Value} {P : Array Value → World → Prop} (hn : cs.size = 3) (h1 : cs.all (·.oneCell') = true) (hm : ds.size = 3) (h2 : ds.all (·.oneCell') = true) (hc : ∀ wx, Apart [] w wx → Calls Tryz.prog 56 #[.agg cs, .agg ds] wx fun r w' => ∃ es, r = .returned (.agg es) ∧ Apart [] wx w' ∧ P es w') : Calls Tryz.prog 42 #[.iface 108 (.agg cs), .iface 108 (.agg ds)] w fun r w' => ∃ es, r = .returned (.tuple #[.iface 108 (.agg es), .int .i64 0]) ∧ Apart [] w w' ∧ P es w' := by
 have Hn := hid hn
 have H1 := hid h1
 have Hm := hid hm
 have H2 := hid h2
 have HC := hid hc
 clear hn h1 hm h2 hc
 have q1 := fun x wx => ta41 x wx
 have q2 := fun x wx => ta42 x wx
 have q3 := fun x wx => ta43 x wx
 have q4 := fun x wx => ta44 x wx
 go_enter Tryz.func42, Tryz.ntmps42
 go_wp2_with (first
  | (refine wpList_store_row rfl 108 _ _ rfl w.heap.size cs rfl rfl 108 _ (heap_alloc_new w _) (by rw [size95, Hn.out]) (by simp [Hn.out]) (H1.out) ?_
     have HB1 := hid (put_new (w := w) (z := #[.int .i64 0, .int .i64 0, .string ⟨#[]⟩]) (cs := cs) (T := 108))
     have HS1 := hid (put_apart (w := w) (z := #[.int .i64 0, .int .i64 0, .string ⟨#[]⟩]) (cs := cs) (T := 108))
     obtain ⟨X1, HX1⟩ : ∃ X, X = w.heap.size := ⟨_, rfl⟩
     rw [← HX1] at HB1 HS1 ⊢
     generalize (w.alloc (.cells #[.int .i64 0, .int .i64 0, .string ⟨#[]⟩] 108)).setRow X1 cs = w2 at *
     clear HX1)
  | (refine wpList_store_row rfl 108 _ _ rfl w2.heap.size ds rfl rfl 108 _ (heap_alloc_new w2 _) (by rw [size95, Hm.out]) (by simp [Hm.out]) (H2.out) ?_
     have HB2 := hid (put_new (w := w2) (z := #[.int .i64 0, .int .i64 0, .string ⟨#[]⟩]) (cs := ds) (T := 108))
     have HS2 := hid (put_apart (w := w2) (z := #[.int .i64 0, .int .i64 0, .string ⟨#[]⟩]) (cs := ds) (T := 108))
     obtain ⟨X2, HX2⟩ : ∃ X, X = w2.heap.size := ⟨_, rfl⟩
     rw [← HX2] at HB2 HS2 ⊢
     generalize (w2.alloc (.cells #[.int .i64 0, .int .i64 0, .string ⟨#[]⟩] 108)).setRow X2 ds = w4 at *
     clear HX2)
  | refine wpList_load_row rfl 108 _ rfl X1 rfl 108 cs (0, 0) _ (keep0 HS2.out HB1.out) Tryz.underlying108 rfl (by rw [size95, Hn.out]) ?_
  | refine wpList_load_row rfl 108 _ rfl X2 rfl 108 ds (0, 0) _ HB2.out Tryz.underlying108 rfl (by rw [size95, Hm.out]) ?_
  | (go_at_call 56; refine (HC.out _ (HS1.out.trans HS2.out)).mono ?_; rintro _ w5 ⟨es, rfl, a5, p5⟩; have H5 := hid (And.intro a5 p5); clear a5 p5))
 go_ret2
 exact ⟨es, rfl, (HS1.out.trans HS2.out).trans H5.out.1, H5.out.2⟩
theorem rv_row3 {W : World} {P : Nat} {x y z : Int} (h : W.heap[P]? = some (.cells #[.int .i64 x, .int .i64 y, .int .i64 z] 3 (0, 0))) : ∀ j u, (rv [x, y, z])[j]? = some u → W.cell? ⟨P, 0 + j, none⟩ = some u := by
 intro j u hj
 rw [Nat.zero_add, cell_of_row _ _ _ _ _ _ h]
 simpa [rv] using hj
def later (s a : Int) (t : ByteArray) (s2 a2 : Int) (t2 : ByteArray) : Prop := orL [cmI s s2, cmI a a2, cmS t t2] < 0
theorem gmerged_ok {w : World} {s a s2 a2 : Int} {t t2 : ByteArray} : Calls Tryz.prog 56 #[.agg (ty.rg s a t), .agg (ty.rg s2 a2 t2)] w fun r w' => (later s a t s2 a2 t2 → r = .returned (.agg (ty.rg s2 a2 t2))) ∧ (¬ later s a t s2 a2 t2 → r = .returned (.agg (ty.rg s a t))) ∧ Apart [] w w' := by
 unfold ty.rg
 have HA := hid (Apart.refl [] w)
 go_enter Tryz.func56, Tryz.ntmps56
 go_upto_region 1 with fail
 obtain ⟨X, HXX⟩ : ∃ X, Hid (X = w.heap.size) := ⟨_, rfl⟩
 obtain ⟨w1, hw1⟩ : ∃ W, W = w.alloc (.cells #[.int .i64 s, .int .i64 a, .string t] 108) := ⟨_, rfl⟩
 have HSw1 : Hid (Apart [] w w1) := hid (zM hw1)
 have HBX : Hid (w1.heap[X]? = some (.cells #[.int .i64 s, .int .i64 a, .string t] 108 (0, 0))) := hid (zN HXX.out hw1)
 have HLX : Hid (w.heap.size ≤ X) := by unfold Hid; rw [HXX.out]; exact HA.out.size
 replace HA := hid (HA.out.trans HSw1.out)
 obtain ⟨Y, HXY⟩ : ∃ X, Hid (X = w1.heap.size) := ⟨_, rfl⟩
 obtain ⟨w2, hw2⟩ : ∃ W, W = w1.alloc (.cells #[.int .i64 s2, .int .i64 a2, .string t2] 108) := ⟨_, rfl⟩
 have HSw2 : Hid (Apart [] w1 w2) := hid (zM hw2)
 have HBY : Hid (w2.heap[Y]? = some (.cells #[.int .i64 s2, .int .i64 a2, .string t2] 108 (0, 0))) := hid (zN HXY.out hw2)
 have HNY_X : Hid (Y ≠ X) := by unfold Hid; have := lt_of_heap HBX.out; rw [HXY.out]; omega
 have HLY : Hid (w.heap.size ≤ Y) := by unfold Hid; rw [HXY.out]; exact HA.out.size
 replace HA := hid (HA.out.trans HSw2.out)
 replace HBX := hid (keep0 HSw2.out HBX.out)
 have heY : X + 1 = Y := by rw [HXY.out, hw1, HXX.out]; exact (Array.size_push _).symm
 obtain ⟨Z, HXZ⟩ : ∃ X, Hid (X = w2.heap.size) := ⟨_, rfl⟩
 obtain ⟨w3, hw3⟩ : ∃ W, W = w2.alloc (.cells #[.int .i64 0, .int .i64 0, .string ⟨#[]⟩] 108) := ⟨_, rfl⟩
 have HSw3 : Hid (Apart [] w2 w3) := hid (zM hw3)
 have HBZ : Hid (w3.heap[Z]? = some (.cells #[.int .i64 0, .int .i64 0, .string ⟨#[]⟩] 108 (0, 0))) := hid (zN HXZ.out hw3)
 have HNZ_X : Hid (Z ≠ X) := by unfold Hid; have := lt_of_heap HBX.out; rw [HXZ.out]; omega
 have HNZ_Y : Hid (Z ≠ Y) := by unfold Hid; have := lt_of_heap HBY.out; rw [HXZ.out]; omega
 have HLZ : Hid (w.heap.size ≤ Z) := by unfold Hid; rw [HXZ.out]; exact HA.out.size
 replace HA := hid (HA.out.trans HSw3.out)
 replace HBX := hid (keep0 HSw3.out HBX.out)
 replace HBY := hid (keep0 HSw3.out HBY.out)
 have heZ : Y + 1 = Z := by rw [HXZ.out, hw2, HXY.out]; exact (Array.size_push _).symm
 rw [← hw1, ← HXX.out, ← hw2, heY, ← hw3, heZ]
 clear hw1 HXX hw2 HXY heY hw3 HXZ heZ
 refine wp_region_held_drew (S := fun W => Apart [] w3 W) (by kernel_rfl) (Apart.refl [] w3).drew fun hHeld => ?_
 generalize w3.drew = wd at *
 refine zt 0 5 ?_
 refine zu 1 6 rfl (fun W hSW => by have z : W.cell? ⟨X, 0, none⟩ = some (.int .i64 s) := (cell_of_row _ _ _ _ _ _ (keep0 hSW HBX.out)).trans rfl; go_simp <;> rfl) ?_
 refine zt 2 7 ?_
 refine zu 3 8 rfl (fun W hSW => by have z : W.cell? ⟨Y, 0, none⟩ = some (.int .i64 s2) := (cell_of_row _ _ _ _ _ _ (keep0 hSW HBY.out)).trans rfl; go_simp <;> rfl) ?_
 refine zt 5 10 ?_
 refine zu 6 11 rfl (fun W hSW => by have z : W.cell? ⟨X, 1, none⟩ = some (.int .i64 a) := (cell_of_row _ _ _ _ _ _ (keep0 hSW HBX.out)).trans rfl; go_simp <;> rfl) ?_
 refine zt 7 12 ?_
 refine zu 8 13 rfl (fun W hSW => by have z : W.cell? ⟨Y, 1, none⟩ = some (.int .i64 a2) := (cell_of_row _ _ _ _ _ _ (keep0 hSW HBY.out)).trans rfl; go_simp <;> rfl) ?_
 refine zt 10 15 ?_
 refine zu 11 16 rfl (fun W hSW => by have z : W.cell? ⟨X, 2, none⟩ = some (.string t) := (cell_of_row _ _ _ _ _ _ (keep0 hSW HBX.out)).trans rfl; go_simp <;> rfl) ?_
 refine zt 12 17 ?_
 refine zu 13 18 rfl (fun W hSW => by have z : W.cell? ⟨Y, 2, none⟩ = some (.string t2) := (cell_of_row _ _ _ _ _ _ (keep0 hSW HBY.out)).trans rfl; go_simp <;> rfl) ?_
 simp only [zA,zB,zC,zD,zF]
 refine zQ 4 fun KK hKK => ?_
 go_simp
 refine (cmpI _ s s2).mono ?_
 rintro _ wa ⟨rfl, rfl⟩
 try dsimp only
 refine hKK.out _ _ hHeld (fun hHeld => ?_)
 clear hKK KK
 try simp only [zA,zB,zC,zD,zF]
 refine zQ 9 fun KK hKK => ?_
 go_simp
 refine (cmpI _ a a2).mono ?_
 rintro _ wb ⟨rfl, rfl⟩
 try dsimp only
 refine hKK.out _ _ hHeld (fun hHeld => ?_)
 clear hKK KK
 try simp only [zA,zB,zC,zD,zF]
 refine zQ 14 fun KK hKK => ?_
 go_simp
 refine (cmpS _ t t2).mono ?_
 rintro _ wc ⟨rfl, rfl⟩
 try dsimp only
 refine hKK.out _ _ hHeld (fun hHeld => ?_)
 clear hKK KK
 try simp only [zA,zB,zC,zD,zF]
 refine zQ 15 fun KK hKK => ?_
 go_simp
 obtain ⟨K, HK⟩ : ∃ K, K = wc.heap.size := ⟨_, rfl⟩
 obtain ⟨wk, hwk⟩ : ∃ W, W = wc.alloc (.cells #[.int .i64 (cmI s s2), .int .i64 (cmI a a2), .int .i64 (cmS t t2)] 3) := ⟨_, rfl⟩
 have HBK : Hid (wk.heap[K]? = some (.cells #[.int .i64 (cmI s s2), .int .i64 (cmI a a2), .int .i64 (cmS t t2)] 3 (0, 0))) := by unfold Hid; rw [hwk, HK]; exact heap_alloc_new wc _
 have hHk : Apart [] w3 wk := by rw [hwk]; exact hHeld.alloc _
 rw [← hwk, ← HK]
 clear hwk HK
 refine hKK.out _ _ hHk (fun hHeld => ?_)
 clear hKK KK
 try simp only [zA,zB,zC,zD,zF]
 refine zQ 16 fun KK hKK => ?_
 go_simp
 refine (or_ok (n := 3) rfl (by omega) (rv_row3 HBK.out)).mono ?_
 rintro _ wm ⟨rfl, rfl⟩
 try dsimp only
 refine hKK.out _ _ hHeld (fun hHeld => ?_)
 clear hKK KK
 try simp only [zA,zB,zC,zD,zF]
 obtain ⟨v, Hv⟩ : ∃ v : Int, Hid (v = orL [cmI s s2, cmI a a2, cmS t t2]) := ⟨_, hid rfl⟩
 simp only [← Hv.out]
 refine zt 17 22 ?_
 simp only [zA,zB,zC,zD,zF]
 refine wpAnyH_done (by kernel_rfl) ?_ _
 have HBX5 := hid (keep0 hHeld HBX.out)
 have HBY5 := hid (keep0 hHeld HBY.out)
 have HBZ5 := hid (keep0 hHeld HBZ.out)
 have HA5 := hid (HA.out.trans hHeld)
 clear hHeld HBK HBX HBY HBZ
 by_cases hv : v < 0
 ·have hv2 : later s a t s2 a2 t2 := by unfold later; rw [← Hv.out]; exact hv
  have HV := hid hv2
  clear hv2
  go_wp2_with (first
   | refine wpList_load_row rfl 108 _ rfl Y rfl 108 _ (0, 0) _ HBY5.out Tryz.underlying108 rfl (by rw [size95]; rfl) ?_
   | refine wpList_store_row rfl 108 _ _ rfl Z #[.int .i64 s2, .int .i64 a2, .string t2] rfl rfl 108 _ HBZ5.out (by rw [size95]; rfl) rfl (by simp [Value.oneCell']) ?_)
  refine bodyPost_ret (results_cell_row rfl _ _ Z 108 #[.int .i64 s2, .int .i64 a2, .string t2] _ _ rfl (setRow_heap _ _ _ _ _ _ HBZ5.out) Tryz.underlying108 rfl (by rw [size95]; rfl)) rfl ?_
  exact ⟨fun _ => rfl, fun h => absurd HV.out h, HA5.out.trans' (apart_setRow _ Z _) (by intro y hy; simp at hy; rw [hy]; exact .inr HLZ.out)⟩

 ·have hv2 : ¬ later s a t s2 a2 t2 := by unfold later; rw [← Hv.out]; exact hv
  have HV := hid hv2
  clear hv2
  go_wp2_with (first
   | refine wpList_load_row rfl 108 _ rfl X rfl 108 _ (0, 0) _ HBX5.out Tryz.underlying108 rfl (by rw [size95]; rfl) ?_
   | refine wpList_store_row rfl 108 _ _ rfl Z #[.int .i64 s, .int .i64 a, .string t] rfl rfl 108 _ HBZ5.out (by rw [size95]; rfl) rfl (by simp [Value.oneCell']) ?_)
  refine bodyPost_ret (results_cell_row rfl _ _ Z 108 #[.int .i64 s, .int .i64 a, .string t] _ _ rfl (setRow_heap _ _ _ _ _ _ HBZ5.out) Tryz.underlying108 rfl (by rw [size95]; rfl)) rfl ?_
  exact ⟨fun h => absurd h HV.out, fun _ => rfl, HA5.out.trans' (apart_setRow _ Z _) (by intro y hy; simp at hy; rw [hy]; exact .inr HLZ.out)⟩

end Go.Proofs.YtdbeeikjngnnnaaGreat.ty
