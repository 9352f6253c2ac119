import Derived.Test.YtdbeeikjngnnnaaG7
namespace Go.Proofs.Ytdbeeikjngnnnaa.ty
open Go.ChangeShapes Go.WideShapes Go.ChangeAt Go.RowKit
set_option linter.unusedVariables false
set_option linter.unusedSimpArgs false
theorem size91 : (Try.prog.info? 91).map (·.size) = some 9 := by kernel_rfl
theorem size95 : (Try.prog.info? 95).map (·.size) = some 3 := by kernel_rfl
/-- a variable that is written at once -/
theorem put_new {w : World} {z cs : Array Value} {T : Nat} : ((w.alloc (.cells z T)).setRow w.heap.size cs).heap[w.heap.size]? = some (.cells cs T (0, 0)) := setRow_heap _ _ _ _ _ _ (heap_alloc_new w _)
theorem put_apart {w : World} {z cs : Array Value} {T : Nat} : Apart [] w ((w.alloc (.cells z T)).setRow w.heap.size cs) := ((Apart.refl [] w).alloc _).trans' (apart_setRow _ w.heap.size cs) (by intro y hy; simp at hy; rw [hy]; exact .inr (Nat.le_refl _))
theorem ta11 (x : Value) (w : World) : (Instr.typeAssert (.iface 88 x) 63 88 true).run Try.prog w = .ok (.tuple #[x, .bool true]) w := by kernel_rfl
theorem ta12 (x : Value) (w : World) : (Instr.typeAssert (.iface 88 x) 63 91 true).run Try.prog w = .ok (.tuple #[.agg #[.int .i64 0, .int .i64 0, .int .i64 0, .int .i64 0, .int .i64 0, .int .i64 0, .int .i64 0, .int .i64 0, .slice none 0 0], .bool false]) w := by kernel_rfl
theorem ta13 (x : Value) (w : World) : (Instr.typeAssert (.iface 88 x) 63 93 true).run Try.prog w = .ok (.tuple #[.agg #[.int .i64 0, .int .i64 0, .int .i64 0, .int .i64 0, .int .i64 0, .int .i64 0, .int .i64 0, .int .i64 0, .int .i64 0, .int .i64 0, .int .i64 0, .int .i64 0, .int .i64 0, .int .i64 0, .int .i64 0, .int .i64 0], .bool false]) w := by kernel_rfl
theorem ta14 (x : Value) (w : World) : (Instr.typeAssert (.iface 88 x) 63 95 true).run Try.prog w = .ok (.tuple #[.agg #[.int .i64 0, .int .i64 0, .string ⟨#[]⟩], .bool false]) w := by kernel_rfl
theorem ta21 (x : Value) (w : World) : (Instr.typeAssert (.iface 91 x) 63 88 true).run Try.prog w = .ok (.tuple #[.agg #[.int .i64 0, .int .i64 0, .int .i64 0, .int .i64 0, .int .i64 0, .int .i64 0, .int .i64 0, .int .i64 0, .int .i64 0, .int .i64 0, .int .i64 0, .int .i64 0, .int .i64 0, .int .i64 0, .int .i64 0, .int .i64 0], .bool false]) w := by kernel_rfl
theorem ta22 (x : Value) (w : World) : (Instr.typeAssert (.iface 91 x) 63 91 true).run Try.prog w = .ok (.tuple #[x, .bool true]) w := by kernel_rfl
theorem ta23 (x : Value) (w : World) : (Instr.typeAssert (.iface 91 x) 63 93 true).run Try.prog w = .ok (.tuple #[.agg #[.int .i64 0, .int .i64 0, .int .i64 0, .int .i64 0, .int .i64 0, .int .i64 0, .int .i64 0, .int .i64 0, .int .i64 0, .int .i64 0, .int .i64 0, .int .i64 0, .int .i64 0, .int .i64 0, .int .i64 0, .int .i64 0], .bool false]) w := by kernel_rfl
theorem ta24 (x : Value) (w : World) : (Instr.typeAssert (.iface 91 x) 63 95 true).run Try.prog w = .ok (.tuple #[.agg #[.int .i64 0, .int .i64 0, .string ⟨#[]⟩], .bool false]) w := by kernel_rfl
theorem ta31 (x : Value) (w : World) : (Instr.typeAssert (.iface 93 x) 63 88 true).run Try.prog w = .ok (.tuple #[.agg #[.int .i64 0, .int .i64 0, .int .i64 0, .int .i64 0, .int .i64 0, .int .i64 0, .int .i64 0, .int .i64 0, .int .i64 0, .int .i64 0, .int .i64 0, .int .i64 0, .int .i64 0, .int .i64 0, .int .i64 0, .int .i64 0], .bool false]) w := by kernel_rfl
theorem ta32 (x : Value) (w : World) : (Instr.typeAssert (.iface 93 x) 63 91 true).run Try.prog w = .ok (.tuple #[.agg #[.int .i64 0, .int .i64 0, .int .i64 0, .int .i64 0, .int .i64 0, .int .i64 0, .int .i64 0, .int .i64 0, .slice none 0 0], .bool false]) w := by kernel_rfl
theorem ta33 (x : Value) (w : World) : (Instr.typeAssert (.iface 93 x) 63 93 true).run Try.prog w = .ok (.tuple #[x, .bool true]) w := by kernel_rfl
theorem ta34 (x : Value) (w : World) : (Instr.typeAssert (.iface 93 x) 63 95 true).run Try.prog w = .ok (.tuple #[.agg #[.int .i64 0, .int .i64 0, .string ⟨#[]⟩], .bool false]) w := by kernel_rfl
theorem ta41 (x : Value) (w : World) : (Instr.typeAssert (.iface 95 x) 63 88 true).run Try.prog w = .ok (.tuple #[.agg #[.int .i64 0, .int .i64 0, .int .i64 0, .int .i64 0, .int .i64 0, .int .i64 0, .int .i64 0, .int .i64 0, .int .i64 0, .int .i64 0, .int .i64 0, .int .i64 0, .int .i64 0, .int .i64 0, .int .i64 0, .int .i64 0], .bool false]) w := by kernel_rfl
theorem ta42 (x : Value) (w : World) : (Instr.typeAssert (.iface 95 x) 63 91 true).run Try.prog w = .ok (.tuple #[.agg #[.int .i64 0, .int .i64 0, .int .i64 0, .int .i64 0, .int .i64 0, .int .i64 0, .int .i64 0, .int .i64 0, .slice none 0 0], .bool false]) w := by kernel_rfl
theorem ta43 (x : Value) (w : World) : (Instr.typeAssert (.iface 95 x) 63 93 true).run Try.prog w = .ok (.tuple #[.agg #[.int .i64 0, .int .i64 0, .int .i64 0, .int .i64 0, .int .i64 0, .int .i64 0, .int .i64 0, .int .i64 0, .int .i64 0, .int .i64 0, .int .i64 0, .int .i64 0, .int .i64 0, .int .i64 0, .int .i64 0, .int .i64 0], .bool false]) w := by kernel_rfl
theorem ta44 (x : Value) (w : World) : (Instr.typeAssert (.iface 95 x) 63 95 true).run Try.prog w = .ok (.tuple #[x, .bool true]) w := by kernel_rfl
set_option maxRecDepth 100000 in
theorem merged_11 {w : World} {cs ds : Array Value} {P : Array Value → World → Prop} (hn : cs.size = 16) (h1 : cs.all (·.oneCell') = true) (hm : ds.size = 16) (h2 : ds.all (·.oneCell') = true) (hc : ∀ wx, Apart [] w wx → Calls Try.prog 35 #[.agg cs, .agg ds] wx fun r w' => ∃ es, r = .returned (.agg es) ∧ Apart [] wx w' ∧ P es w') : Calls Try.prog 32 #[.iface 88 (.agg cs), .iface 88 (.agg ds)] w fun r w' => ∃ es, r = .returned (.tuple #[.iface 88 (.agg es), .int .i64 0]) ∧ Apart [] w w' ∧ P es w' := by
  have Hn := hid hn
  have H1 := hid h1
  have Hm := hid hm
  have H2 := hid h2
  have HC := hid hc
  clear hn h1 hm h2 hc
  have q1 := fun x wx => ta11 x wx
  go_enter Try.func32, Try.ntmps32
  go_wp2_with (first
    | (refine wpList_store_row rfl 88 _ _ rfl w.heap.size cs rfl rfl 88 _ (heap_alloc_new w _) (by rw [size88, Hn.out]) (by simp [Hn.out]) (H1.out) ?_
       have HB1 := hid (put_new (w := w) (z := #[.int .i64 0, .int .i64 0, .int .i64 0, .int .i64 0, .int .i64 0, .int .i64 0, .int .i64 0, .int .i64 0, .int .i64 0, .int .i64 0, .int .i64 0, .int .i64 0, .int .i64 0, .int .i64 0, .int .i64 0, .int .i64 0]) (cs := cs) (T := 88))
       have HS1 := hid (put_apart (w := w) (z := #[.int .i64 0, .int .i64 0, .int .i64 0, .int .i64 0, .int .i64 0, .int .i64 0, .int .i64 0, .int .i64 0, .int .i64 0, .int .i64 0, .int .i64 0, .int .i64 0, .int .i64 0, .int .i64 0, .int .i64 0, .int .i64 0]) (cs := cs) (T := 88))
       obtain ⟨X1, HX1⟩ : ∃ X, X = w.heap.size := ⟨_, rfl⟩
       rw [← HX1] at HB1 HS1 ⊢
       generalize (w.alloc (.cells #[.int .i64 0, .int .i64 0, .int .i64 0, .int .i64 0, .int .i64 0, .int .i64 0, .int .i64 0, .int .i64 0, .int .i64 0, .int .i64 0, .int .i64 0, .int .i64 0, .int .i64 0, .int .i64 0, .int .i64 0, .int .i64 0] 88)).setRow X1 cs = w2 at *
       clear HX1)
    | (refine wpList_store_row rfl 88 _ _ rfl w2.heap.size ds rfl rfl 88 _ (heap_alloc_new w2 _) (by rw [size88, Hm.out]) (by simp [Hm.out]) (H2.out) ?_
       have HB2 := hid (put_new (w := w2) (z := #[.int .i64 0, .int .i64 0, .int .i64 0, .int .i64 0, .int .i64 0, .int .i64 0, .int .i64 0, .int .i64 0, .int .i64 0, .int .i64 0, .int .i64 0, .int .i64 0, .int .i64 0, .int .i64 0, .int .i64 0, .int .i64 0]) (cs := ds) (T := 88))
       have HS2 := hid (put_apart (w := w2) (z := #[.int .i64 0, .int .i64 0, .int .i64 0, .int .i64 0, .int .i64 0, .int .i64 0, .int .i64 0, .int .i64 0, .int .i64 0, .int .i64 0, .int .i64 0, .int .i64 0, .int .i64 0, .int .i64 0, .int .i64 0, .int .i64 0]) (cs := ds) (T := 88))
       obtain ⟨X2, HX2⟩ : ∃ X, X = w2.heap.size := ⟨_, rfl⟩
       rw [← HX2] at HB2 HS2 ⊢
       generalize (w2.alloc (.cells #[.int .i64 0, .int .i64 0, .int .i64 0, .int .i64 0, .int .i64 0, .int .i64 0, .int .i64 0, .int .i64 0, .int .i64 0, .int .i64 0, .int .i64 0, .int .i64 0, .int .i64 0, .int .i64 0, .int .i64 0, .int .i64 0] 88)).setRow X2 ds = w4 at *
       clear HX2)
    | refine wpList_load_row rfl 88 _ rfl X1 rfl 88 cs (0, 0) _ (keep0 HS2.out HB1.out) Try.underlying88 rfl (by rw [size88, Hn.out]) ?_
    | refine wpList_load_row rfl 88 _ rfl X2 rfl 88 ds (0, 0) _ HB2.out Try.underlying88 rfl (by rw [size88, Hm.out]) ?_
    | (go_at_call 35; refine (HC.out _ (HS1.out.trans HS2.out)).mono ?_; rintro _ w5 ⟨es, rfl, a5, p5⟩; have H5 := hid (And.intro a5 p5); clear a5 p5))
  go_ret2
  exact ⟨es, rfl, (HS1.out.trans HS2.out).trans H5.out.1, H5.out.2⟩
set_option maxRecDepth 100000 in
theorem merged_12 {w : World} {cs ds : Array Value} (hn : cs.size = 16) (h1 : cs.all (·.oneCell') = true) : Calls Try.prog 32 #[.iface 88 (.agg cs), .iface 91 (.agg ds)] w fun r w' => r = .returned (.tuple #[.nilIface, .int .i64 190]) ∧ Apart [] w w' := by
  have Hn := hid hn
  have H1 := hid h1
  clear hn h1
  have q1 := fun x wx => ta11 x wx
  obtain ⟨zs, pk, Hz, Hy⟩ : ∃ zs : Array Value, (∀ x wx, (Instr.typeAssert (.iface 91 x) 63 88 true).run Try.prog wx = .ok (.tuple #[.agg zs, .bool false]) wx) ∧ Hid (zs.size = 16) ∧ Hid (zs.all (·.oneCell') = true) := ⟨_, ta21, hid rfl, hid (by simp [Value.oneCell'])⟩
  go_enter Try.func32, Try.ntmps32
  go_wp2_with (first
    | (refine wpList_store_row rfl 88 _ _ rfl w.heap.size cs rfl rfl 88 _ (heap_alloc_new w _) (by rw [size88, Hn.out]) (by simp [Hn.out]) (H1.out) ?_
       have HB1 := hid (put_new (w := w) (z := #[.int .i64 0, .int .i64 0, .int .i64 0, .int .i64 0, .int .i64 0, .int .i64 0, .int .i64 0, .int .i64 0, .int .i64 0, .int .i64 0, .int .i64 0, .int .i64 0, .int .i64 0, .int .i64 0, .int .i64 0, .int .i64 0]) (cs := cs) (T := 88))
       have HS1 := hid (put_apart (w := w) (z := #[.int .i64 0, .int .i64 0, .int .i64 0, .int .i64 0, .int .i64 0, .int .i64 0, .int .i64 0, .int .i64 0, .int .i64 0, .int .i64 0, .int .i64 0, .int .i64 0, .int .i64 0, .int .i64 0, .int .i64 0, .int .i64 0]) (cs := cs) (T := 88))
       obtain ⟨X1, HX1⟩ : ∃ X, X = w.heap.size := ⟨_, rfl⟩
       rw [← HX1] at HB1 HS1 ⊢
       generalize (w.alloc (.cells #[.int .i64 0, .int .i64 0, .int .i64 0, .int .i64 0, .int .i64 0, .int .i64 0, .int .i64 0, .int .i64 0, .int .i64 0, .int .i64 0, .int .i64 0, .int .i64 0, .int .i64 0, .int .i64 0, .int .i64 0, .int .i64 0] 88)).setRow X1 cs = w2 at *
       clear HX1)
    | (refine wpList_store_row rfl 88 _ _ rfl w2.heap.size zs rfl rfl 88 _ (heap_alloc_new w2 _) (by rw [size88, Hz.out]) (by simp [Hz.out]) (Hy.out) ?_
       have HB2 := hid (put_new (w := w2) (z := #[.int .i64 0, .int .i64 0, .int .i64 0, .int .i64 0, .int .i64 0, .int .i64 0, .int .i64 0, .int .i64 0, .int .i64 0, .int .i64 0, .int .i64 0, .int .i64 0, .int .i64 0, .int .i64 0, .int .i64 0, .int .i64 0]) (cs := zs) (T := 88))
       have HS2 := hid (put_apart (w := w2) (z := #[.int .i64 0, .int .i64 0, .int .i64 0, .int .i64 0, .int .i64 0, .int .i64 0, .int .i64 0, .int .i64 0, .int .i64 0, .int .i64 0, .int .i64 0, .int .i64 0, .int .i64 0, .int .i64 0, .int .i64 0, .int .i64 0]) (cs := zs) (T := 88))
       obtain ⟨X2, HX2⟩ : ∃ X, X = w2.heap.size := ⟨_, rfl⟩
       rw [← HX2] at HB2 HS2 ⊢
       generalize (w2.alloc (.cells #[.int .i64 0, .int .i64 0, .int .i64 0, .int .i64 0, .int .i64 0, .int .i64 0, .int .i64 0, .int .i64 0, .int .i64 0, .int .i64 0, .int .i64 0, .int .i64 0, .int .i64 0, .int .i64 0, .int .i64 0, .int .i64 0] 88)).setRow X2 zs = w4 at *
       clear HX2))
  go_ret2
  exact ⟨rfl, HS1.out.trans HS2.out⟩
set_option maxRecDepth 100000 in
theorem merged_13 {w : World} {cs ds : Array Value} (hn : cs.size = 16) (h1 : cs.all (·.oneCell') = true) : Calls Try.prog 32 #[.iface 88 (.agg cs), .iface 93 (.agg ds)] w fun r w' => r = .returned (.tuple #[.nilIface, .int .i64 190]) ∧ Apart [] w w' := by
  have Hn := hid hn
  have H1 := hid h1
  clear hn h1
  have q1 := fun x wx => ta11 x wx
  obtain ⟨zs, pk, Hz, Hy⟩ : ∃ zs : Array Value, (∀ x wx, (Instr.typeAssert (.iface 93 x) 63 88 true).run Try.prog wx = .ok (.tuple #[.agg zs, .bool false]) wx) ∧ Hid (zs.size = 16) ∧ Hid (zs.all (·.oneCell') = true) := ⟨_, ta31, hid rfl, hid (by simp [Value.oneCell'])⟩
  go_enter Try.func32, Try.ntmps32
  go_wp2_with (first
    | (refine wpList_store_row rfl 88 _ _ rfl w.heap.size cs rfl rfl 88 _ (heap_alloc_new w _) (by rw [size88, Hn.out]) (by simp [Hn.out]) (H1.out) ?_
       have HB1 := hid (put_new (w := w) (z := #[.int .i64 0, .int .i64 0, .int .i64 0, .int .i64 0, .int .i64 0, .int .i64 0, .int .i64 0, .int .i64 0, .int .i64 0, .int .i64 0, .int .i64 0, .int .i64 0, .int .i64 0, .int .i64 0, .int .i64 0, .int .i64 0]) (cs := cs) (T := 88))
       have HS1 := hid (put_apart (w := w) (z := #[.int .i64 0, .int .i64 0, .int .i64 0, .int .i64 0, .int .i64 0, .int .i64 0, .int .i64 0, .int .i64 0, .int .i64 0, .int .i64 0, .int .i64 0, .int .i64 0, .int .i64 0, .int .i64 0, .int .i64 0, .int .i64 0]) (cs := cs) (T := 88))
       obtain ⟨X1, HX1⟩ : ∃ X, X = w.heap.size := ⟨_, rfl⟩
       rw [← HX1] at HB1 HS1 ⊢
       generalize (w.alloc (.cells #[.int .i64 0, .int .i64 0, .int .i64 0, .int .i64 0, .int .i64 0, .int .i64 0, .int .i64 0, .int .i64 0, .int .i64 0, .int .i64 0, .int .i64 0, .int .i64 0, .int .i64 0, .int .i64 0, .int .i64 0, .int .i64 0] 88)).setRow X1 cs = w2 at *
       clear HX1)
    | (refine wpList_store_row rfl 88 _ _ rfl w2.heap.size zs rfl rfl 88 _ (heap_alloc_new w2 _) (by rw [size88, Hz.out]) (by simp [Hz.out]) (Hy.out) ?_
       have HB2 := hid (put_new (w := w2) (z := #[.int .i64 0, .int .i64 0, .int .i64 0, .int .i64 0, .int .i64 0, .int .i64 0, .int .i64 0, .int .i64 0, .int .i64 0, .int .i64 0, .int .i64 0, .int .i64 0, .int .i64 0, .int .i64 0, .int .i64 0, .int .i64 0]) (cs := zs) (T := 88))
       have HS2 := hid (put_apart (w := w2) (z := #[.int .i64 0, .int .i64 0, .int .i64 0, .int .i64 0, .int .i64 0, .int .i64 0, .int .i64 0, .int .i64 0, .int .i64 0, .int .i64 0, .int .i64 0, .int .i64 0, .int .i64 0, .int .i64 0, .int .i64 0, .int .i64 0]) (cs := zs) (T := 88))
       obtain ⟨X2, HX2⟩ : ∃ X, X = w2.heap.size := ⟨_, rfl⟩
       rw [← HX2] at HB2 HS2 ⊢
       generalize (w2.alloc (.cells #[.int .i64 0, .int .i64 0, .int .i64 0, .int .i64 0, .int .i64 0, .int .i64 0, .int .i64 0, .int .i64 0, .int .i64 0, .int .i64 0, .int .i64 0, .int .i64 0, .int .i64 0, .int .i64 0, .int .i64 0, .int .i64 0] 88)).setRow X2 zs = w4 at *
       clear HX2))
  go_ret2
  exact ⟨rfl, HS1.out.trans HS2.out⟩
set_option maxRecDepth 100000 in
theorem merged_14 {w : World} {cs ds : Array Value} (hn : cs.size = 16) (h1 : cs.all (·.oneCell') = true) : Calls Try.prog 32 #[.iface 88 (.agg cs), .iface 95 (.agg ds)] w fun r w' => r = .returned (.tuple #[.nilIface, .int .i64 190]) ∧ Apart [] w w' := by
  have Hn := hid hn
  have H1 := hid h1
  clear hn h1
  have q1 := fun x wx => ta11 x wx
  obtain ⟨zs, pk, Hz, Hy⟩ : ∃ zs : Array Value, (∀ x wx, (Instr.typeAssert (.iface 95 x) 63 88 true).run Try.prog wx = .ok (.tuple #[.agg zs, .bool false]) wx) ∧ Hid (zs.size = 16) ∧ Hid (zs.all (·.oneCell') = true) := ⟨_, ta41, hid rfl, hid (by simp [Value.oneCell'])⟩
  go_enter Try.func32, Try.ntmps32
  go_wp2_with (first
    | (refine wpList_store_row rfl 88 _ _ rfl w.heap.size cs rfl rfl 88 _ (heap_alloc_new w _) (by rw [size88, Hn.out]) (by simp [Hn.out]) (H1.out) ?_
       have HB1 := hid (put_new (w := w) (z := #[.int .i64 0, .int .i64 0, .int .i64 0, .int .i64 0, .int .i64 0, .int .i64 0, .int .i64 0, .int .i64 0, .int .i64 0, .int .i64 0, .int .i64 0, .int .i64 0, .int .i64 0, .int .i64 0, .int .i64 0, .int .i64 0]) (cs := cs) (T := 88))
       have HS1 := hid (put_apart (w := w) (z := #[.int .i64 0, .int .i64 0, .int .i64 0, .int .i64 0, .int .i64 0, .int .i64 0, .int .i64 0, .int .i64 0, .int .i64 0, .int .i64 0, .int .i64 0, .int .i64 0, .int .i64 0, .int .i64 0, .int .i64 0, .int .i64 0]) (cs := cs) (T := 88))
       obtain ⟨X1, HX1⟩ : ∃ X, X = w.heap.size := ⟨_, rfl⟩
       rw [← HX1] at HB1 HS1 ⊢
       generalize (w.alloc (.cells #[.int .i64 0, .int .i64 0, .int .i64 0, .int .i64 0, .int .i64 0, .int .i64 0, .int .i64 0, .int .i64 0, .int .i64 0, .int .i64 0, .int .i64 0, .int .i64 0, .int .i64 0, .int .i64 0, .int .i64 0, .int .i64 0] 88)).setRow X1 cs = w2 at *
       clear HX1)
    | (refine wpList_store_row rfl 88 _ _ rfl w2.heap.size zs rfl rfl 88 _ (heap_alloc_new w2 _) (by rw [size88, Hz.out]) (by simp [Hz.out]) (Hy.out) ?_
       have HB2 := hid (put_new (w := w2) (z := #[.int .i64 0, .int .i64 0, .int .i64 0, .int .i64 0, .int .i64 0, .int .i64 0, .int .i64 0, .int .i64 0, .int .i64 0, .int .i64 0, .int .i64 0, .int .i64 0, .int .i64 0, .int .i64 0, .int .i64 0, .int .i64 0]) (cs := zs) (T := 88))
       have HS2 := hid (put_apart (w := w2) (z := #[.int .i64 0, .int .i64 0, .int .i64 0, .int .i64 0, .int .i64 0, .int .i64 0, .int .i64 0, .int .i64 0, .int .i64 0, .int .i64 0, .int .i64 0, .int .i64 0, .int .i64 0, .int .i64 0, .int .i64 0, .int .i64 0]) (cs := zs) (T := 88))
       obtain ⟨X2, HX2⟩ : ∃ X, X = w2.heap.size := ⟨_, rfl⟩
       rw [← HX2] at HB2 HS2 ⊢
       generalize (w2.alloc (.cells #[.int .i64 0, .int .i64 0, .int .i64 0, .int .i64 0, .int .i64 0, .int .i64 0, .int .i64 0, .int .i64 0, .int .i64 0, .int .i64 0, .int .i64 0, .int .i64 0, .int .i64 0, .int .i64 0, .int .i64 0, .int .i64 0] 88)).setRow X2 zs = w4 at *
       clear HX2))
  go_ret2
  exact ⟨rfl, HS1.out.trans HS2.out⟩
set_option maxRecDepth 100000 in
theorem merged_21 {w : World} {cs ds : Array Value} (hn : cs.size = 9) (h1 : cs.all (·.oneCell') = true) : Calls Try.prog 32 #[.iface 91 (.agg cs), .iface 88 (.agg ds)] w fun r w' => r = .returned (.tuple #[.nilIface, .int .i64 190]) ∧ Apart [] w w' := by
  have Hn := hid hn
  have H1 := hid h1
  clear hn h1
  have q1 := fun x wx => ta21 x wx
  have q2 := fun x wx => ta22 x wx
  obtain ⟨zs, pk, Hz, Hy⟩ : ∃ zs : Array Value, (∀ x wx, (Instr.typeAssert (.iface 88 x) 63 91 true).run Try.prog wx = .ok (.tuple #[.agg zs, .bool false]) wx) ∧ Hid (zs.size = 9) ∧ Hid (zs.all (·.oneCell') = true) := ⟨_, ta12, hid rfl, hid (by simp [Value.oneCell'])⟩
  go_enter Try.func32, Try.ntmps32
  go_wp2_with (first
    | (refine wpList_store_row rfl 91 _ _ rfl w.heap.size cs rfl rfl 91 _ (heap_alloc_new w _) (by rw [size91, Hn.out]) (by simp [Hn.out]) (H1.out) ?_
       have HB1 := hid (put_new (w := w) (z := #[.int .i64 0, .int .i64 0, .int .i64 0, .int .i64 0, .int .i64 0, .int .i64 0, .int .i64 0, .int .i64 0, .slice none 0 0]) (cs := cs) (T := 91))
       have HS1 := hid (put_apart (w := w) (z := #[.int .i64 0, .int .i64 0, .int .i64 0, .int .i64 0, .int .i64 0, .int .i64 0, .int .i64 0, .int .i64 0, .slice none 0 0]) (cs := cs) (T := 91))
       obtain ⟨X1, HX1⟩ : ∃ X, X = w.heap.size := ⟨_, rfl⟩
       rw [← HX1] at HB1 HS1 ⊢
       generalize (w.alloc (.cells #[.int .i64 0, .int .i64 0, .int .i64 0, .int .i64 0, .int .i64 0, .int .i64 0, .int .i64 0, .int .i64 0, .slice none 0 0] 91)).setRow X1 cs = w2 at *
       clear HX1)
    | (refine wpList_store_row rfl 91 _ _ rfl w2.heap.size zs rfl rfl 91 _ (heap_alloc_new w2 _) (by rw [size91, Hz.out]) (by simp [Hz.out]) (Hy.out) ?_
       have HB2 := hid (put_new (w := w2) (z := #[.int .i64 0, .int .i64 0, .int .i64 0, .int .i64 0, .int .i64 0, .int .i64 0, .int .i64 0, .int .i64 0, .slice none 0 0]) (cs := zs) (T := 91))
       have HS2 := hid (put_apart (w := w2) (z := #[.int .i64 0, .int .i64 0, .int .i64 0, .int .i64 0, .int .i64 0, .int .i64 0, .int .i64 0, .int .i64 0, .slice none 0 0]) (cs := zs) (T := 91))
       obtain ⟨X2, HX2⟩ : ∃ X, X = w2.heap.size := ⟨_, rfl⟩
       rw [← HX2] at HB2 HS2 ⊢
       generalize (w2.alloc (.cells #[.int .i64 0, .int .i64 0, .int .i64 0, .int .i64 0, .int .i64 0, .int .i64 0, .int .i64 0, .int .i64 0, .slice none 0 0] 91)).setRow X2 zs = w4 at *
       clear HX2))
  go_ret2
  exact ⟨rfl, HS1.out.trans HS2.out⟩
set_option maxRecDepth 100000 in
theorem merged_22 {w : World} {cs ds : Array Value} {P : Array Value → World → Prop} (hn : cs.size = 9) (h1 : cs.all (·.oneCell') = true) (hm : ds.size = 9) (h2 : ds.all (·.oneCell') = true) (hc : ∀ wx, Apart [] w wx → Calls Try.prog 36 #[.agg cs, .agg ds] wx fun r w' => ∃ es, r = .returned (.agg es) ∧ Apart [] wx w' ∧ P es w') : Calls Try.prog 32 #[.iface 91 (.agg cs), .iface 91 (.agg ds)] w fun r w' => ∃ es, r = .returned (.tuple #[.iface 91 (.agg es), .int .i64 0]) ∧ Apart [] w w' ∧ P es w' := by
  have Hn := hid hn
  have H1 := hid h1
  have Hm := hid hm
  have H2 := hid h2
  have HC := hid hc
  clear hn h1 hm h2 hc
  have q1 := fun x wx => ta21 x wx
  have q2 := fun x wx => ta22 x wx
  go_enter Try.func32, Try.ntmps32
  go_wp2_with (first
    | (refine wpList_store_row rfl 91 _ _ rfl w.heap.size cs rfl rfl 91 _ (heap_alloc_new w _) (by rw [size91, Hn.out]) (by simp [Hn.out]) (H1.out) ?_
       have HB1 := hid (put_new (w := w) (z := #[.int .i64 0, .int .i64 0, .int .i64 0, .int .i64 0, .int .i64 0, .int .i64 0, .int .i64 0, .int .i64 0, .slice none 0 0]) (cs := cs) (T := 91))
       have HS1 := hid (put_apart (w := w) (z := #[.int .i64 0, .int .i64 0, .int .i64 0, .int .i64 0, .int .i64 0, .int .i64 0, .int .i64 0, .int .i64 0, .slice none 0 0]) (cs := cs) (T := 91))
       obtain ⟨X1, HX1⟩ : ∃ X, X = w.heap.size := ⟨_, rfl⟩
       rw [← HX1] at HB1 HS1 ⊢
       generalize (w.alloc (.cells #[.int .i64 0, .int .i64 0, .int .i64 0, .int .i64 0, .int .i64 0, .int .i64 0, .int .i64 0, .int .i64 0, .slice none 0 0] 91)).setRow X1 cs = w2 at *
       clear HX1)
    | (refine wpList_store_row rfl 91 _ _ rfl w2.heap.size ds rfl rfl 91 _ (heap_alloc_new w2 _) (by rw [size91, Hm.out]) (by simp [Hm.out]) (H2.out) ?_
       have HB2 := hid (put_new (w := w2) (z := #[.int .i64 0, .int .i64 0, .int .i64 0, .int .i64 0, .int .i64 0, .int .i64 0, .int .i64 0, .int .i64 0, .slice none 0 0]) (cs := ds) (T := 91))
       have HS2 := hid (put_apart (w := w2) (z := #[.int .i64 0, .int .i64 0, .int .i64 0, .int .i64 0, .int .i64 0, .int .i64 0, .int .i64 0, .int .i64 0, .slice none 0 0]) (cs := ds) (T := 91))
       obtain ⟨X2, HX2⟩ : ∃ X, X = w2.heap.size := ⟨_, rfl⟩
       rw [← HX2] at HB2 HS2 ⊢
       generalize (w2.alloc (.cells #[.int .i64 0, .int .i64 0, .int .i64 0, .int .i64 0, .int .i64 0, .int .i64 0, .int .i64 0, .int .i64 0, .slice none 0 0] 91)).setRow X2 ds = w4 at *
       clear HX2)
    | refine wpList_load_row rfl 91 _ rfl X1 rfl 91 cs (0, 0) _ (keep0 HS2.out HB1.out) Try.underlying91 rfl (by rw [size91, Hn.out]) ?_
    | refine wpList_load_row rfl 91 _ rfl X2 rfl 91 ds (0, 0) _ HB2.out Try.underlying91 rfl (by rw [size91, Hm.out]) ?_
    | (go_at_call 36; refine (HC.out _ (HS1.out.trans HS2.out)).mono ?_; rintro _ w5 ⟨es, rfl, a5, p5⟩; have H5 := hid (And.intro a5 p5); clear a5 p5))
  go_ret2
  exact ⟨es, rfl, (HS1.out.trans HS2.out).trans H5.out.1, H5.out.2⟩
set_option maxRecDepth 100000 in
theorem merged_23 {w : World} {cs ds : Array Value} (hn : cs.size = 9) (h1 : cs.all (·.oneCell') = true) : Calls Try.prog 32 #[.iface 91 (.agg cs), .iface 93 (.agg ds)] w fun r w' => r = .returned (.tuple #[.nilIface, .int .i64 190]) ∧ Apart [] w w' := by
  have Hn := hid hn
  have H1 := hid h1
  clear hn h1
  have q1 := fun x wx => ta21 x wx
  have q2 := fun x wx => ta22 x wx
  obtain ⟨zs, pk, Hz, Hy⟩ : ∃ zs : Array Value, (∀ x wx, (Instr.typeAssert (.iface 93 x) 63 91 true).run Try.prog wx = .ok (.tuple #[.agg zs, .bool false]) wx) ∧ Hid (zs.size = 9) ∧ Hid (zs.all (·.oneCell') = true) := ⟨_, ta32, hid rfl, hid (by simp [Value.oneCell'])⟩
  go_enter Try.func32, Try.ntmps32
  go_wp2_with (first
    | (refine wpList_store_row rfl 91 _ _ rfl w.heap.size cs rfl rfl 91 _ (heap_alloc_new w _) (by rw [size91, Hn.out]) (by simp [Hn.out]) (H1.out) ?_
       have HB1 := hid (put_new (w := w) (z := #[.int .i64 0, .int .i64 0, .int .i64 0, .int .i64 0, .int .i64 0, .int .i64 0, .int .i64 0, .int .i64 0, .slice none 0 0]) (cs := cs) (T := 91))
       have HS1 := hid (put_apart (w := w) (z := #[.int .i64 0, .int .i64 0, .int .i64 0, .int .i64 0, .int .i64 0, .int .i64 0, .int .i64 0, .int .i64 0, .slice none 0 0]) (cs := cs) (T := 91))
       obtain ⟨X1, HX1⟩ : ∃ X, X = w.heap.size := ⟨_, rfl⟩
       rw [← HX1] at HB1 HS1 ⊢
       generalize (w.alloc (.cells #[.int .i64 0, .int .i64 0, .int .i64 0, .int .i64 0, .int .i64 0, .int .i64 0, .int .i64 0, .int .i64 0, .slice none 0 0] 91)).setRow X1 cs = w2 at *
       clear HX1)
    | (refine wpList_store_row rfl 91 _ _ rfl w2.heap.size zs rfl rfl 91 _ (heap_alloc_new w2 _) (by rw [size91, Hz.out]) (by simp [Hz.out]) (Hy.out) ?_
       have HB2 := hid (put_new (w := w2) (z := #[.int .i64 0, .int .i64 0, .int .i64 0, .int .i64 0, .int .i64 0, .int .i64 0, .int .i64 0, .int .i64 0, .slice none 0 0]) (cs := zs) (T := 91))
       have HS2 := hid (put_apart (w := w2) (z := #[.int .i64 0, .int .i64 0, .int .i64 0, .int .i64 0, .int .i64 0, .int .i64 0, .int .i64 0, .int .i64 0, .slice none 0 0]) (cs := zs) (T := 91))
       obtain ⟨X2, HX2⟩ : ∃ X, X = w2.heap.size := ⟨_, rfl⟩
       rw [← HX2] at HB2 HS2 ⊢
       generalize (w2.alloc (.cells #[.int .i64 0, .int .i64 0, .int .i64 0, .int .i64 0, .int .i64 0, .int .i64 0, .int .i64 0, .int .i64 0, .slice none 0 0] 91)).setRow X2 zs = w4 at *
       clear HX2))
  go_ret2
  exact ⟨rfl, HS1.out.trans HS2.out⟩
set_option maxRecDepth 100000 in
theorem merged_24 {w : World} {cs ds : Array Value} (hn : cs.size = 9) (h1 : cs.all (·.oneCell') = true) : Calls Try.prog 32 #[.iface 91 (.agg cs), .iface 95 (.agg ds)] w fun r w' => r = .returned (.tuple #[.nilIface, .int .i64 190]) ∧ Apart [] w w' := by
  have Hn := hid hn
  have H1 := hid h1
  clear hn h1
  have q1 := fun x wx => ta21 x wx
  have q2 := fun x wx => ta22 x wx
  obtain ⟨zs, pk, Hz, Hy⟩ : ∃ zs : Array Value, (∀ x wx, (Instr.typeAssert (.iface 95 x) 63 91 true).run Try.prog wx = .ok (.tuple #[.agg zs, .bool false]) wx) ∧ Hid (zs.size = 9) ∧ Hid (zs.all (·.oneCell') = true) := ⟨_, ta42, hid rfl, hid (by simp [Value.oneCell'])⟩
  go_enter Try.func32, Try.ntmps32
  go_wp2_with (first
    | (refine wpList_store_row rfl 91 _ _ rfl w.heap.size cs rfl rfl 91 _ (heap_alloc_new w _) (by rw [size91, Hn.out]) (by simp [Hn.out]) (H1.out) ?_
       have HB1 := hid (put_new (w := w) (z := #[.int .i64 0, .int .i64 0, .int .i64 0, .int .i64 0, .int .i64 0, .int .i64 0, .int .i64 0, .int .i64 0, .slice none 0 0]) (cs := cs) (T := 91))
       have HS1 := hid (put_apart (w := w) (z := #[.int .i64 0, .int .i64 0, .int .i64 0, .int .i64 0, .int .i64 0, .int .i64 0, .int .i64 0, .int .i64 0, .slice none 0 0]) (cs := cs) (T := 91))
       obtain ⟨X1, HX1⟩ : ∃ X, X = w.heap.size := ⟨_, rfl⟩
       rw [← HX1] at HB1 HS1 ⊢
       generalize (w.alloc (.cells #[.int .i64 0, .int .i64 0, .int .i64 0, .int .i64 0, .int .i64 0, .int .i64 0, .int .i64 0, .int .i64 0, .slice none 0 0] 91)).setRow X1 cs = w2 at *
       clear HX1)
    | (refine wpList_store_row rfl 91 _ _ rfl w2.heap.size zs rfl rfl 91 _ (heap_alloc_new w2 _) (by rw [size91, Hz.out]) (by simp [Hz.out]) (Hy.out) ?_
       have HB2 := hid (put_new (w := w2) (z := #[.int .i64 0, .int .i64 0, .int .i64 0, .int .i64 0, .int .i64 0, .int .i64 0, .int .i64 0, .int .i64 0, .slice none 0 0]) (cs := zs) (T := 91))
       have HS2 := hid (put_apart (w := w2) (z := #[.int .i64 0, .int .i64 0, .int .i64 0, .int .i64 0, .int .i64 0, .int .i64 0, .int .i64 0, .int .i64 0, .slice none 0 0]) (cs := zs) (T := 91))
       obtain ⟨X2, HX2⟩ : ∃ X, X = w2.heap.size := ⟨_, rfl⟩
       rw [← HX2] at HB2 HS2 ⊢
       generalize (w2.alloc (.cells #[.int .i64 0, .int .i64 0, .int .i64 0, .int .i64 0, .int .i64 0, .int .i64 0, .int .i64 0, .int .i64 0, .slice none 0 0] 91)).setRow X2 zs = w4 at *
       clear HX2))
  go_ret2
  exact ⟨rfl, HS1.out.trans HS2.out⟩
set_option maxRecDepth 100000 in
theorem merged_31 {w : World} {cs ds : Array Value} (hn : cs.size = 16) (h1 : cs.all (·.oneCell') = true) : Calls Try.prog 32 #[.iface 93 (.agg cs), .iface 88 (.agg ds)] w fun r w' => r = .returned (.tuple #[.nilIface, .int .i64 190]) ∧ Apart [] w w' := by
  have Hn := hid hn
  have H1 := hid h1
  clear hn h1
  have q1 := fun x wx => ta31 x wx
  have q2 := fun x wx => ta32 x wx
  have q3 := fun x wx => ta33 x wx
  obtain ⟨zs, pk, Hz, Hy⟩ : ∃ zs : Array Value, (∀ x wx, (Instr.typeAssert (.iface 88 x) 63 93 true).run Try.prog wx = .ok (.tuple #[.agg zs, .bool false]) wx) ∧ Hid (zs.size = 16) ∧ Hid (zs.all (·.oneCell') = true) := ⟨_, ta13, hid rfl, hid (by simp [Value.oneCell'])⟩
  go_enter Try.func32, Try.ntmps32
  go_wp2_with (first
    | (refine wpList_store_row rfl 93 _ _ rfl w.heap.size cs rfl rfl 93 _ (heap_alloc_new w _) (by rw [size93, Hn.out]) (by simp [Hn.out]) (H1.out) ?_
       have HB1 := hid (put_new (w := w) (z := #[.int .i64 0, .int .i64 0, .int .i64 0, .int .i64 0, .int .i64 0, .int .i64 0, .int .i64 0, .int .i64 0, .int .i64 0, .int .i64 0, .int .i64 0, .int .i64 0, .int .i64 0, .int .i64 0, .int .i64 0, .int .i64 0]) (cs := cs) (T := 93))
       have HS1 := hid (put_apart (w := w) (z := #[.int .i64 0, .int .i64 0, .int .i64 0, .int .i64 0, .int .i64 0, .int .i64 0, .int .i64 0, .int .i64 0, .int .i64 0, .int .i64 0, .int .i64 0, .int .i64 0, .int .i64 0, .int .i64 0, .int .i64 0, .int .i64 0]) (cs := cs) (T := 93))
       obtain ⟨X1, HX1⟩ : ∃ X, X = w.heap.size := ⟨_, rfl⟩
       rw [← HX1] at HB1 HS1 ⊢
       generalize (w.alloc (.cells #[.int .i64 0, .int .i64 0, .int .i64 0, .int .i64 0, .int .i64 0, .int .i64 0, .int .i64 0, .int .i64 0, .int .i64 0, .int .i64 0, .int .i64 0, .int .i64 0, .int .i64 0, .int .i64 0, .int .i64 0, .int .i64 0] 93)).setRow X1 cs = w2 at *
       clear HX1)
    | (refine wpList_store_row rfl 93 _ _ rfl w2.heap.size zs rfl rfl 93 _ (heap_alloc_new w2 _) (by rw [size93, Hz.out]) (by simp [Hz.out]) (Hy.out) ?_
       have HB2 := hid (put_new (w := w2) (z := #[.int .i64 0, .int .i64 0, .int .i64 0, .int .i64 0, .int .i64 0, .int .i64 0, .int .i64 0, .int .i64 0, .int .i64 0, .int .i64 0, .int .i64 0, .int .i64 0, .int .i64 0, .int .i64 0, .int .i64 0, .int .i64 0]) (cs := zs) (T := 93))
       have HS2 := hid (put_apart (w := w2) (z := #[.int .i64 0, .int .i64 0, .int .i64 0, .int .i64 0, .int .i64 0, .int .i64 0, .int .i64 0, .int .i64 0, .int .i64 0, .int .i64 0, .int .i64 0, .int .i64 0, .int .i64 0, .int .i64 0, .int .i64 0, .int .i64 0]) (cs := zs) (T := 93))
       obtain ⟨X2, HX2⟩ : ∃ X, X = w2.heap.size := ⟨_, rfl⟩
       rw [← HX2] at HB2 HS2 ⊢
       generalize (w2.alloc (.cells #[.int .i64 0, .int .i64 0, .int .i64 0, .int .i64 0, .int .i64 0, .int .i64 0, .int .i64 0, .int .i64 0, .int .i64 0, .int .i64 0, .int .i64 0, .int .i64 0, .int .i64 0, .int .i64 0, .int .i64 0, .int .i64 0] 93)).setRow X2 zs = w4 at *
       clear HX2))
  go_ret2
  exact ⟨rfl, HS1.out.trans HS2.out⟩
set_option maxRecDepth 100000 in
theorem merged_32 {w : World} {cs ds : Array Value} (hn : cs.size = 16) (h1 : cs.all (·.oneCell') = true) : Calls Try.prog 32 #[.iface 93 (.agg cs), .iface 91 (.agg ds)] w fun r w' => r = .returned (.tuple #[.nilIface, .int .i64 190]) ∧ Apart [] w w' := by
  have Hn := hid hn
  have H1 := hid h1
  clear hn h1
  have q1 := fun x wx => ta31 x wx
  have q2 := fun x wx => ta32 x wx
  have q3 := fun x wx => ta33 x wx
  obtain ⟨zs, pk, Hz, Hy⟩ : ∃ zs : Array Value, (∀ x wx, (Instr.typeAssert (.iface 91 x) 63 93 true).run Try.prog wx = .ok (.tuple #[.agg zs, .bool false]) wx) ∧ Hid (zs.size = 16) ∧ Hid (zs.all (·.oneCell') = true) := ⟨_, ta23, hid rfl, hid (by simp [Value.oneCell'])⟩
  go_enter Try.func32, Try.ntmps32
  go_wp2_with (first
    | (refine wpList_store_row rfl 93 _ _ rfl w.heap.size cs rfl rfl 93 _ (heap_alloc_new w _) (by rw [size93, Hn.out]) (by simp [Hn.out]) (H1.out) ?_
       have HB1 := hid (put_new (w := w) (z := #[.int .i64 0, .int .i64 0, .int .i64 0, .int .i64 0, .int .i64 0, .int .i64 0, .int .i64 0, .int .i64 0, .int .i64 0, .int .i64 0, .int .i64 0, .int .i64 0, .int .i64 0, .int .i64 0, .int .i64 0, .int .i64 0]) (cs := cs) (T := 93))
       have HS1 := hid (put_apart (w := w) (z := #[.int .i64 0, .int .i64 0, .int .i64 0, .int .i64 0, .int .i64 0, .int .i64 0, .int .i64 0, .int .i64 0, .int .i64 0, .int .i64 0, .int .i64 0, .int .i64 0, .int .i64 0, .int .i64 0, .int .i64 0, .int .i64 0]) (cs := cs) (T := 93))
       obtain ⟨X1, HX1⟩ : ∃ X, X = w.heap.size := ⟨_, rfl⟩
       rw [← HX1] at HB1 HS1 ⊢
       generalize (w.alloc (.cells #[.int .i64 0, .int .i64 0, .int .i64 0, .int .i64 0, .int .i64 0, .int .i64 0, .int .i64 0, .int .i64 0, .int .i64 0, .int .i64 0, .int .i64 0, .int .i64 0, .int .i64 0, .int .i64 0, .int .i64 0, .int .i64 0] 93)).setRow X1 cs = w2 at *
       clear HX1)
    | (refine wpList_store_row rfl 93 _ _ rfl w2.heap.size zs rfl rfl 93 _ (heap_alloc_new w2 _) (by rw [size93, Hz.out]) (by simp [Hz.out]) (Hy.out) ?_
       have HB2 := hid (put_new (w := w2) (z := #[.int .i64 0, .int .i64 0, .int .i64 0, .int .i64 0, .int .i64 0, .int .i64 0, .int .i64 0, .int .i64 0, .int .i64 0, .int .i64 0, .int .i64 0, .int .i64 0, .int .i64 0, .int .i64 0, .int .i64 0, .int .i64 0]) (cs := zs) (T := 93))
       have HS2 := hid (put_apart (w := w2) (z := #[.int .i64 0, .int .i64 0, .int .i64 0, .int .i64 0, .int .i64 0, .int .i64 0, .int .i64 0, .int .i64 0, .int .i64 0, .int .i64 0, .int .i64 0, .int .i64 0, .int .i64 0, .int .i64 0, .int .i64 0, .int .i64 0]) (cs := zs) (T := 93))
       obtain ⟨X2, HX2⟩ : ∃ X, X = w2.heap.size := ⟨_, rfl⟩
       rw [← HX2] at HB2 HS2 ⊢
       generalize (w2.alloc (.cells #[.int .i64 0, .int .i64 0, .int .i64 0, .int .i64 0, .int .i64 0, .int .i64 0, .int .i64 0, .int .i64 0, .int .i64 0, .int .i64 0, .int .i64 0, .int .i64 0, .int .i64 0, .int .i64 0, .int .i64 0, .int .i64 0] 93)).setRow X2 zs = w4 at *
       clear HX2))
  go_ret2
  exact ⟨rfl, HS1.out.trans HS2.out⟩
set_option maxRecDepth 100000 in
theorem merged_33 {w : World} {cs ds : Array Value} {P : Array Value → World → Prop} (hn : cs.size = 16) (h1 : cs.all (·.oneCell') = true) (hm : ds.size = 16) (h2 : ds.all (·.oneCell') = true) (hc : ∀ wx, Apart [] w wx → Calls Try.prog 37 #[.agg cs, .agg ds] wx fun r w' => ∃ es, r = .returned (.agg es) ∧ Apart [] wx w' ∧ P es w') : Calls Try.prog 32 #[.iface 93 (.agg cs), .iface 93 (.agg ds)] w fun r w' => ∃ es, r = .returned (.tuple #[.iface 93 (.agg es), .int .i64 0]) ∧ Apart [] w w' ∧ P es w' := by
  have Hn := hid hn
  have H1 := hid h1
  have Hm := hid hm
  have H2 := hid h2
  have HC := hid hc
  clear hn h1 hm h2 hc
  have q1 := fun x wx => ta31 x wx
  have q2 := fun x wx => ta32 x wx
  have q3 := fun x wx => ta33 x wx
  go_enter Try.func32, Try.ntmps32
  go_wp2_with (first
    | (refine wpList_store_row rfl 93 _ _ rfl w.heap.size cs rfl rfl 93 _ (heap_alloc_new w _) (by rw [size93, Hn.out]) (by simp [Hn.out]) (H1.out) ?_
       have HB1 := hid (put_new (w := w) (z := #[.int .i64 0, .int .i64 0, .int .i64 0, .int .i64 0, .int .i64 0, .int .i64 0, .int .i64 0, .int .i64 0, .int .i64 0, .int .i64 0, .int .i64 0, .int .i64 0, .int .i64 0, .int .i64 0, .int .i64 0, .int .i64 0]) (cs := cs) (T := 93))
       have HS1 := hid (put_apart (w := w) (z := #[.int .i64 0, .int .i64 0, .int .i64 0, .int .i64 0, .int .i64 0, .int .i64 0, .int .i64 0, .int .i64 0, .int .i64 0, .int .i64 0, .int .i64 0, .int .i64 0, .int .i64 0, .int .i64 0, .int .i64 0, .int .i64 0]) (cs := cs) (T := 93))
       obtain ⟨X1, HX1⟩ : ∃ X, X = w.heap.size := ⟨_, rfl⟩
       rw [← HX1] at HB1 HS1 ⊢
       generalize (w.alloc (.cells #[.int .i64 0, .int .i64 0, .int .i64 0, .int .i64 0, .int .i64 0, .int .i64 0, .int .i64 0, .int .i64 0, .int .i64 0, .int .i64 0, .int .i64 0, .int .i64 0, .int .i64 0, .int .i64 0, .int .i64 0, .int .i64 0] 93)).setRow X1 cs = w2 at *
       clear HX1)
    | (refine wpList_store_row rfl 93 _ _ rfl w2.heap.size ds rfl rfl 93 _ (heap_alloc_new w2 _) (by rw [size93, Hm.out]) (by simp [Hm.out]) (H2.out) ?_
       have HB2 := hid (put_new (w := w2) (z := #[.int .i64 0, .int .i64 0, .int .i64 0, .int .i64 0, .int .i64 0, .int .i64 0, .int .i64 0, .int .i64 0, .int .i64 0, .int .i64 0, .int .i64 0, .int .i64 0, .int .i64 0, .int .i64 0, .int .i64 0, .int .i64 0]) (cs := ds) (T := 93))
       have HS2 := hid (put_apart (w := w2) (z := #[.int .i64 0, .int .i64 0, .int .i64 0, .int .i64 0, .int .i64 0, .int .i64 0, .int .i64 0, .int .i64 0, .int .i64 0, .int .i64 0, .int .i64 0, .int .i64 0, .int .i64 0, .int .i64 0, .int .i64 0, .int .i64 0]) (cs := ds) (T := 93))
       obtain ⟨X2, HX2⟩ : ∃ X, X = w2.heap.size := ⟨_, rfl⟩
       rw [← HX2] at HB2 HS2 ⊢
       generalize (w2.alloc (.cells #[.int .i64 0, .int .i64 0, .int .i64 0, .int .i64 0, .int .i64 0, .int .i64 0, .int .i64 0, .int .i64 0, .int .i64 0, .int .i64 0, .int .i64 0, .int .i64 0, .int .i64 0, .int .i64 0, .int .i64 0, .int .i64 0] 93)).setRow X2 ds = w4 at *
       clear HX2)
    | refine wpList_load_row rfl 93 _ rfl X1 rfl 93 cs (0, 0) _ (keep0 HS2.out HB1.out) Try.underlying93 rfl (by rw [size93, Hn.out]) ?_
    | refine wpList_load_row rfl 93 _ rfl X2 rfl 93 ds (0, 0) _ HB2.out Try.underlying93 rfl (by rw [size93, Hm.out]) ?_
    | (go_at_call 37; refine (HC.out _ (HS1.out.trans HS2.out)).mono ?_; rintro _ w5 ⟨es, rfl, a5, p5⟩; have H5 := hid (And.intro a5 p5); clear a5 p5))
  go_ret2
  exact ⟨es, rfl, (HS1.out.trans HS2.out).trans H5.out.1, H5.out.2⟩
set_option maxRecDepth 100000 in
theorem merged_34 {w : World} {cs ds : Array Value} (hn : cs.size = 16) (h1 : cs.all (·.oneCell') = true) : Calls Try.prog 32 #[.iface 93 (.agg cs), .iface 95 (.agg ds)] w fun r w' => r = .returned (.tuple #[.nilIface, .int .i64 190]) ∧ Apart [] w w' := by
  have Hn := hid hn
  have H1 := hid h1
  clear hn h1
  have q1 := fun x wx => ta31 x wx
  have q2 := fun x wx => ta32 x wx
  have q3 := fun x wx => ta33 x wx
  obtain ⟨zs, pk, Hz, Hy⟩ : ∃ zs : Array Value, (∀ x wx, (Instr.typeAssert (.iface 95 x) 63 93 true).run Try.prog wx = .ok (.tuple #[.agg zs, .bool false]) wx) ∧ Hid (zs.size = 16) ∧ Hid (zs.all (·.oneCell') = true) := ⟨_, ta43, hid rfl, hid (by simp [Value.oneCell'])⟩
  go_enter Try.func32, Try.ntmps32
  go_wp2_with (first
    | (refine wpList_store_row rfl 93 _ _ rfl w.heap.size cs rfl rfl 93 _ (heap_alloc_new w _) (by rw [size93, Hn.out]) (by simp [Hn.out]) (H1.out) ?_
       have HB1 := hid (put_new (w := w) (z := #[.int .i64 0, .int .i64 0, .int .i64 0, .int .i64 0, .int .i64 0, .int .i64 0, .int .i64 0, .int .i64 0, .int .i64 0, .int .i64 0, .int .i64 0, .int .i64 0, .int .i64 0, .int .i64 0, .int .i64 0, .int .i64 0]) (cs := cs) (T := 93))
       have HS1 := hid (put_apart (w := w) (z := #[.int .i64 0, .int .i64 0, .int .i64 0, .int .i64 0, .int .i64 0, .int .i64 0, .int .i64 0, .int .i64 0, .int .i64 0, .int .i64 0, .int .i64 0, .int .i64 0, .int .i64 0, .int .i64 0, .int .i64 0, .int .i64 0]) (cs := cs) (T := 93))
       obtain ⟨X1, HX1⟩ : ∃ X, X = w.heap.size := ⟨_, rfl⟩
       rw [← HX1] at HB1 HS1 ⊢
       generalize (w.alloc (.cells #[.int .i64 0, .int .i64 0, .int .i64 0, .int .i64 0, .int .i64 0, .int .i64 0, .int .i64 0, .int .i64 0, .int .i64 0, .int .i64 0, .int .i64 0, .int .i64 0, .int .i64 0, .int .i64 0, .int .i64 0, .int .i64 0] 93)).setRow X1 cs = w2 at *
       clear HX1)
    | (refine wpList_store_row rfl 93 _ _ rfl w2.heap.size zs rfl rfl 93 _ (heap_alloc_new w2 _) (by rw [size93, Hz.out]) (by simp [Hz.out]) (Hy.out) ?_
       have HB2 := hid (put_new (w := w2) (z := #[.int .i64 0, .int .i64 0, .int .i64 0, .int .i64 0, .int .i64 0, .int .i64 0, .int .i64 0, .int .i64 0, .int .i64 0, .int .i64 0, .int .i64 0, .int .i64 0, .int .i64 0, .int .i64 0, .int .i64 0, .int .i64 0]) (cs := zs) (T := 93))
       have HS2 := hid (put_apart (w := w2) (z := #[.int .i64 0, .int .i64 0, .int .i64 0, .int .i64 0, .int .i64 0, .int .i64 0, .int .i64 0, .int .i64 0, .int .i64 0, .int .i64 0, .int .i64 0, .int .i64 0, .int .i64 0, .int .i64 0, .int .i64 0, .int .i64 0]) (cs := zs) (T := 93))
       obtain ⟨X2, HX2⟩ : ∃ X, X = w2.heap.size := ⟨_, rfl⟩
       rw [← HX2] at HB2 HS2 ⊢
       generalize (w2.alloc (.cells #[.int .i64 0, .int .i64 0, .int .i64 0, .int .i64 0, .int .i64 0, .int .i64 0, .int .i64 0, .int .i64 0, .int .i64 0, .int .i64 0, .int .i64 0, .int .i64 0, .int .i64 0, .int .i64 0, .int .i64 0, .int .i64 0] 93)).setRow X2 zs = w4 at *
       clear HX2))
  go_ret2
  exact ⟨rfl, HS1.out.trans HS2.out⟩
set_option maxRecDepth 100000 in
theorem merged_41 {w : World} {cs ds : Array Value} (hn : cs.size = 3) (h1 : cs.all (·.oneCell') = true) : Calls Try.prog 32 #[.iface 95 (.agg cs), .iface 88 (.agg ds)] w fun r w' => r = .returned (.tuple #[.nilIface, .int .i64 190]) ∧ Apart [] w w' := by
  have Hn := hid hn
  have H1 := hid h1
  clear hn h1
  have q1 := fun x wx => ta41 x wx
  have q2 := fun x wx => ta42 x wx
  have q3 := fun x wx => ta43 x wx
  have q4 := fun x wx => ta44 x wx
  obtain ⟨zs, pk, Hz, Hy⟩ : ∃ zs : Array Value, (∀ x wx, (Instr.typeAssert (.iface 88 x) 63 95 true).run Try.prog wx = .ok (.tuple #[.agg zs, .bool false]) wx) ∧ Hid (zs.size = 3) ∧ Hid (zs.all (·.oneCell') = true) := ⟨_, ta14, hid rfl, hid (by simp [Value.oneCell'])⟩
  go_enter Try.func32, Try.ntmps32
  go_wp2_with (first
    | (refine wpList_store_row rfl 95 _ _ rfl w.heap.size cs rfl rfl 95 _ (heap_alloc_new w _) (by rw [size95, Hn.out]) (by simp [Hn.out]) (H1.out) ?_
       have HB1 := hid (put_new (w := w) (z := #[.int .i64 0, .int .i64 0, .string ⟨#[]⟩]) (cs := cs) (T := 95))
       have HS1 := hid (put_apart (w := w) (z := #[.int .i64 0, .int .i64 0, .string ⟨#[]⟩]) (cs := cs) (T := 95))
       obtain ⟨X1, HX1⟩ : ∃ X, X = w.heap.size := ⟨_, rfl⟩
       rw [← HX1] at HB1 HS1 ⊢
       generalize (w.alloc (.cells #[.int .i64 0, .int .i64 0, .string ⟨#[]⟩] 95)).setRow X1 cs = w2 at *
       clear HX1)
    | (refine wpList_store_row rfl 95 _ _ rfl w2.heap.size zs rfl rfl 95 _ (heap_alloc_new w2 _) (by rw [size95, Hz.out]) (by simp [Hz.out]) (Hy.out) ?_
       have HB2 := hid (put_new (w := w2) (z := #[.int .i64 0, .int .i64 0, .string ⟨#[]⟩]) (cs := zs) (T := 95))
       have HS2 := hid (put_apart (w := w2) (z := #[.int .i64 0, .int .i64 0, .string ⟨#[]⟩]) (cs := zs) (T := 95))
       obtain ⟨X2, HX2⟩ : ∃ X, X = w2.heap.size := ⟨_, rfl⟩
       rw [← HX2] at HB2 HS2 ⊢
       generalize (w2.alloc (.cells #[.int .i64 0, .int .i64 0, .string ⟨#[]⟩] 95)).setRow X2 zs = w4 at *
       clear HX2))
  go_ret2
  exact ⟨rfl, HS1.out.trans HS2.out⟩
set_option maxRecDepth 100000 in
theorem merged_42 {w : World} {cs ds : Array Value} (hn : cs.size = 3) (h1 : cs.all (·.oneCell') = true) : Calls Try.prog 32 #[.iface 95 (.agg cs), .iface 91 (.agg ds)] w fun r w' => r = .returned (.tuple #[.nilIface, .int .i64 190]) ∧ Apart [] w w' := by
  have Hn := hid hn
  have H1 := hid h1
  clear hn h1
  have q1 := fun x wx => ta41 x wx
  have q2 := fun x wx => ta42 x wx
  have q3 := fun x wx => ta43 x wx
  have q4 := fun x wx => ta44 x wx
  obtain ⟨zs, pk, Hz, Hy⟩ : ∃ zs : Array Value, (∀ x wx, (Instr.typeAssert (.iface 91 x) 63 95 true).run Try.prog wx = .ok (.tuple #[.agg zs, .bool false]) wx) ∧ Hid (zs.size = 3) ∧ Hid (zs.all (·.oneCell') = true) := ⟨_, ta24, hid rfl, hid (by simp [Value.oneCell'])⟩
  go_enter Try.func32, Try.ntmps32
  go_wp2_with (first
    | (refine wpList_store_row rfl 95 _ _ rfl w.heap.size cs rfl rfl 95 _ (heap_alloc_new w _) (by rw [size95, Hn.out]) (by simp [Hn.out]) (H1.out) ?_
       have HB1 := hid (put_new (w := w) (z := #[.int .i64 0, .int .i64 0, .string ⟨#[]⟩]) (cs := cs) (T := 95))
       have HS1 := hid (put_apart (w := w) (z := #[.int .i64 0, .int .i64 0, .string ⟨#[]⟩]) (cs := cs) (T := 95))
       obtain ⟨X1, HX1⟩ : ∃ X, X = w.heap.size := ⟨_, rfl⟩
       rw [← HX1] at HB1 HS1 ⊢
       generalize (w.alloc (.cells #[.int .i64 0, .int .i64 0, .string ⟨#[]⟩] 95)).setRow X1 cs = w2 at *
       clear HX1)
    | (refine wpList_store_row rfl 95 _ _ rfl w2.heap.size zs rfl rfl 95 _ (heap_alloc_new w2 _) (by rw [size95, Hz.out]) (by simp [Hz.out]) (Hy.out) ?_
       have HB2 := hid (put_new (w := w2) (z := #[.int .i64 0, .int .i64 0, .string ⟨#[]⟩]) (cs := zs) (T := 95))
       have HS2 := hid (put_apart (w := w2) (z := #[.int .i64 0, .int .i64 0, .string ⟨#[]⟩]) (cs := zs) (T := 95))
       obtain ⟨X2, HX2⟩ : ∃ X, X = w2.heap.size := ⟨_, rfl⟩
       rw [← HX2] at HB2 HS2 ⊢
       generalize (w2.alloc (.cells #[.int .i64 0, .int .i64 0, .string ⟨#[]⟩] 95)).setRow X2 zs = w4 at *
       clear HX2))
  go_ret2
  exact ⟨rfl, HS1.out.trans HS2.out⟩
set_option maxRecDepth 100000 in
theorem merged_43 {w : World} {cs ds : Array Value} (hn : cs.size = 3) (h1 : cs.all (·.oneCell') = true) : Calls Try.prog 32 #[.iface 95 (.agg cs), .iface 93 (.agg ds)] w fun r w' => r = .returned (.tuple #[.nilIface, .int .i64 190]) ∧ Apart [] w w' := by
  have Hn := hid hn
  have H1 := hid h1
  clear hn h1
  have q1 := fun x wx => ta41 x wx
  have q2 := fun x wx => ta42 x wx
  have q3 := fun x wx => ta43 x wx
  have q4 := fun x wx => ta44 x wx
  obtain ⟨zs, pk, Hz, Hy⟩ : ∃ zs : Array Value, (∀ x wx, (Instr.typeAssert (.iface 93 x) 63 95 true).run Try.prog wx = .ok (.tuple #[.agg zs, .bool false]) wx) ∧ Hid (zs.size = 3) ∧ Hid (zs.all (·.oneCell') = true) := ⟨_, ta34, hid rfl, hid (by simp [Value.oneCell'])⟩
  go_enter Try.func32, Try.ntmps32
  go_wp2_with (first
    | (refine wpList_store_row rfl 95 _ _ rfl w.heap.size cs rfl rfl 95 _ (heap_alloc_new w _) (by rw [size95, Hn.out]) (by simp [Hn.out]) (H1.out) ?_
       have HB1 := hid (put_new (w := w) (z := #[.int .i64 0, .int .i64 0, .string ⟨#[]⟩]) (cs := cs) (T := 95))
       have HS1 := hid (put_apart (w := w) (z := #[.int .i64 0, .int .i64 0, .string ⟨#[]⟩]) (cs := cs) (T := 95))
       obtain ⟨X1, HX1⟩ : ∃ X, X = w.heap.size := ⟨_, rfl⟩
       rw [← HX1] at HB1 HS1 ⊢
       generalize (w.alloc (.cells #[.int .i64 0, .int .i64 0, .string ⟨#[]⟩] 95)).setRow X1 cs = w2 at *
       clear HX1)
    | (refine wpList_store_row rfl 95 _ _ rfl w2.heap.size zs rfl rfl 95 _ (heap_alloc_new w2 _) (by rw [size95, Hz.out]) (by simp [Hz.out]) (Hy.out) ?_
       have HB2 := hid (put_new (w := w2) (z := #[.int .i64 0, .int .i64 0, .string ⟨#[]⟩]) (cs := zs) (T := 95))
       have HS2 := hid (put_apart (w := w2) (z := #[.int .i64 0, .int .i64 0, .string ⟨#[]⟩]) (cs := zs) (T := 95))
       obtain ⟨X2, HX2⟩ : ∃ X, X = w2.heap.size := ⟨_, rfl⟩
       rw [← HX2] at HB2 HS2 ⊢
       generalize (w2.alloc (.cells #[.int .i64 0, .int .i64 0, .string ⟨#[]⟩] 95)).setRow X2 zs = w4 at *
       clear HX2))
  go_ret2
  exact ⟨rfl, HS1.out.trans HS2.out⟩
set_option maxRecDepth 100000 in
theorem merged_44 {w : World} {cs ds : Array Value} {P : Array Value → World → Prop} (hn : cs.size = 3) (h1 : cs.all (·.oneCell') = true) (hm : ds.size = 3) (h2 : ds.all (·.oneCell') = true) (hc : ∀ wx, Apart [] w wx → Calls Try.prog 38 #[.agg cs, .agg ds] wx fun r w' => ∃ es, r = .returned (.agg es) ∧ Apart [] wx w' ∧ P es w') : Calls Try.prog 32 #[.iface 95 (.agg cs), .iface 95 (.agg ds)] w fun r w' => ∃ es, r = .returned (.tuple #[.iface 95 (.agg es), .int .i64 0]) ∧ Apart [] w w' ∧ P es w' := by
  have Hn := hid hn
  have H1 := hid h1
  have Hm := hid hm
  have H2 := hid h2
  have HC := hid hc
  clear hn h1 hm h2 hc
  have q1 := fun x wx => ta41 x wx
  have q2 := fun x wx => ta42 x wx
  have q3 := fun x wx => ta43 x wx
  have q4 := fun x wx => ta44 x wx
  go_enter Try.func32, Try.ntmps32
  go_wp2_with (first
    | (refine wpList_store_row rfl 95 _ _ rfl w.heap.size cs rfl rfl 95 _ (heap_alloc_new w _) (by rw [size95, Hn.out]) (by simp [Hn.out]) (H1.out) ?_
       have HB1 := hid (put_new (w := w) (z := #[.int .i64 0, .int .i64 0, .string ⟨#[]⟩]) (cs := cs) (T := 95))
       have HS1 := hid (put_apart (w := w) (z := #[.int .i64 0, .int .i64 0, .string ⟨#[]⟩]) (cs := cs) (T := 95))
       obtain ⟨X1, HX1⟩ : ∃ X, X = w.heap.size := ⟨_, rfl⟩
       rw [← HX1] at HB1 HS1 ⊢
       generalize (w.alloc (.cells #[.int .i64 0, .int .i64 0, .string ⟨#[]⟩] 95)).setRow X1 cs = w2 at *
       clear HX1)
    | (refine wpList_store_row rfl 95 _ _ rfl w2.heap.size ds rfl rfl 95 _ (heap_alloc_new w2 _) (by rw [size95, Hm.out]) (by simp [Hm.out]) (H2.out) ?_
       have HB2 := hid (put_new (w := w2) (z := #[.int .i64 0, .int .i64 0, .string ⟨#[]⟩]) (cs := ds) (T := 95))
       have HS2 := hid (put_apart (w := w2) (z := #[.int .i64 0, .int .i64 0, .string ⟨#[]⟩]) (cs := ds) (T := 95))
       obtain ⟨X2, HX2⟩ : ∃ X, X = w2.heap.size := ⟨_, rfl⟩
       rw [← HX2] at HB2 HS2 ⊢
       generalize (w2.alloc (.cells #[.int .i64 0, .int .i64 0, .string ⟨#[]⟩] 95)).setRow X2 ds = w4 at *
       clear HX2)
    | refine wpList_load_row rfl 95 _ rfl X1 rfl 95 cs (0, 0) _ (keep0 HS2.out HB1.out) Try.underlying95 rfl (by rw [size95, Hn.out]) ?_
    | refine wpList_load_row rfl 95 _ rfl X2 rfl 95 ds (0, 0) _ HB2.out Try.underlying95 rfl (by rw [size95, Hm.out]) ?_
    | (go_at_call 38; refine (HC.out _ (HS1.out.trans HS2.out)).mono ?_; rintro _ w5 ⟨es, rfl, a5, p5⟩; have H5 := hid (And.intro a5 p5); clear a5 p5))
  go_ret2
  exact ⟨es, rfl, (HS1.out.trans HS2.out).trans H5.out.1, H5.out.2⟩
end Go.Proofs.Ytdbeeikjngnnnaa.ty
