import Derived.Test.YtdbeeikjngnnnaaGreatC2
namespace Go.Proofs.YtdbeeikjngnnnaaGreat.ty
open Go.ChangeShapes Go.WideShapes Go.ChangeAt Go.RowKit
set_option linter.unusedVariables false
set_option linter.unusedSimpArgs false
set_option maxRecDepth 100000
set_option maxHeartbeats 8000000
theorem me_add1 (cs : Array Value) (w : World) : (method 284 101 (.agg cs) "rookery/types.add").run Tryz.prog w = .ok (101, .agg cs) w := by kernel_rfl
theorem me_sum1 (cs : Array Value) (w : World) : (method 284 101 (.agg cs) "rookery/types.sum").run Tryz.prog w = .ok (105, .agg cs) w := by kernel_rfl
theorem me_put2 (cs : Array Value) (w : World) : (method 284 104 (.agg cs) "rookery/types.put").run Tryz.prog w = .ok (114, .agg cs) w := by kernel_rfl
theorem me_take2 (cs : Array Value) (w : World) : (method 284 104 (.agg cs) "rookery/types.take").run Tryz.prog w = .ok (117, .agg cs) w := by kernel_rfl
theorem me_elements2 (cs : Array Value) (w : World) : (method 284 104 (.agg cs) "rookery/types.elements").run Tryz.prog w = .ok (112, .agg cs) w := by kernel_rfl
theorem me_turn3 (cs : Array Value) (w : World) : (method 284 106 (.agg cs) "rookery/types.turn").run Tryz.prog w = .ok (132, .agg cs) w := by kernel_rfl
theorem me_on3 (cs : Array Value) (w : World) : (method 284 106 (.agg cs) "rookery/types.on").run Tryz.prog w = .ok (129, .agg cs) w := by kernel_rfl
theorem me_write4 (cs : Array Value) (w : World) : (method 284 108 (.agg cs) "rookery/types.write").run Tryz.prog w = .ok (137, .agg cs) w := by kernel_rfl
theorem me_text4 (cs : Array Value) (w : World) : (method 284 108 (.agg cs) "rookery/types.text").run Tryz.prog w = .ok (136, .agg cs) w := by kernel_rfl
theorem arr3 {cs : Array Value} (h : cs.size = 3) : ∃ x0 x1 x2, cs = #[x0, x1, x2] := by
 obtain ⟨l⟩ := cs
 match l, h with
 | [x0, x1, x2], _ => exact ⟨x0, x1, x2, rfl⟩
theorem arr9 {cs : Array Value} (h : cs.size = 9) : ∃ x0 x1 x2 x3 x4 x5 x6 x7 x8, cs = #[x0, x1, x2, x3, x4, x5, x6, x7, x8] := by
 obtain ⟨l⟩ := cs
 match l, h with
 | [x0, x1, x2, x3, x4, x5, x6, x7, x8], _ => exact ⟨x0, x1, x2, x3, x4, x5, x6, x7, x8, rfl⟩
theorem arr16 {cs : Array Value} (h : cs.size = 16) : ∃ x0 x1 x2 x3 x4 x5 x6 x7 x8 x9 x10 x11 x12 x13 x14 x15, cs = #[x0, x1, x2, x3, x4, x5, x6, x7, x8, x9, x10, x11, x12, x13, x14, x15] := by
 obtain ⟨l⟩ := cs
 match l, h with
 | [x0, x1, x2, x3, x4, x5, x6, x7, x8, x9, x10, x11, x12, x13, x14, x15], _ => exact ⟨x0, x1, x2, x3, x4, x5, x6, x7, x8, x9, x10, x11, x12, x13, x14, x15, rfl⟩
theorem mf_put1 {cs : Array Value} (h : cs.size = 16) (w : World) : (method 284 101 (.agg cs) "rookery/types.put").run Tryz.prog w = .ok (94, .agg #[]) w := by
 obtain ⟨x0, x1, x2, x3, x4, x5, x6, x7, x8, x9, x10, x11, x12, x13, x14, x15, rfl⟩ := arr16 h
 kernel_rfl
theorem mf_turn1 {cs : Array Value} (h : cs.size = 16) (w : World) : (method 284 101 (.agg cs) "rookery/types.turn").run Tryz.prog w = .ok (98, .agg #[]) w := by
 obtain ⟨x0, x1, x2, x3, x4, x5, x6, x7, x8, x9, x10, x11, x12, x13, x14, x15, rfl⟩ := arr16 h
 kernel_rfl
theorem mf_write1 {cs : Array Value} (h : cs.size = 16) (w : World) : (method 284 101 (.agg cs) "rookery/types.write").run Tryz.prog w = .ok (99, .agg #[]) w := by
 obtain ⟨x0, x1, x2, x3, x4, x5, x6, x7, x8, x9, x10, x11, x12, x13, x14, x15, rfl⟩ := arr16 h
 kernel_rfl
theorem mf_take1 {cs : Array Value} (h : cs.size = 16) (w : World) : (method 284 101 (.agg cs) "rookery/types.take").run Tryz.prog w = .ok (96, .agg #[]) w := by
 obtain ⟨x0, x1, x2, x3, x4, x5, x6, x7, x8, x9, x10, x11, x12, x13, x14, x15, rfl⟩ := arr16 h
 kernel_rfl
theorem mf_elements1 {cs : Array Value} (h : cs.size = 16) (w : World) : (method 284 101 (.agg cs) "rookery/types.elements").run Tryz.prog w = .ok (92, .agg #[]) w := by
 obtain ⟨x0, x1, x2, x3, x4, x5, x6, x7, x8, x9, x10, x11, x12, x13, x14, x15, rfl⟩ := arr16 h
 kernel_rfl
theorem mf_on1 {cs : Array Value} (h : cs.size = 16) (w : World) : (method 284 101 (.agg cs) "rookery/types.on").run Tryz.prog w = .ok (93, .agg #[]) w := by
 obtain ⟨x0, x1, x2, x3, x4, x5, x6, x7, x8, x9, x10, x11, x12, x13, x14, x15, rfl⟩ := arr16 h
 kernel_rfl
theorem mf_text1 {cs : Array Value} (h : cs.size = 16) (w : World) : (method 284 101 (.agg cs) "rookery/types.text").run Tryz.prog w = .ok (97, .agg #[]) w := by
 obtain ⟨x0, x1, x2, x3, x4, x5, x6, x7, x8, x9, x10, x11, x12, x13, x14, x15, rfl⟩ := arr16 h
 kernel_rfl
theorem mf_add2 {cs : Array Value} (h : cs.size = 9) (w : World) : (method 284 104 (.agg cs) "rookery/types.add").run Tryz.prog w = .ok (91, .agg #[]) w := by
 obtain ⟨x0, x1, x2, x3, x4, x5, x6, x7, x8, rfl⟩ := arr9 h
 kernel_rfl
theorem mf_turn2 {cs : Array Value} (h : cs.size = 9) (w : World) : (method 284 104 (.agg cs) "rookery/types.turn").run Tryz.prog w = .ok (98, .agg #[]) w := by
 obtain ⟨x0, x1, x2, x3, x4, x5, x6, x7, x8, rfl⟩ := arr9 h
 kernel_rfl
theorem mf_write2 {cs : Array Value} (h : cs.size = 9) (w : World) : (method 284 104 (.agg cs) "rookery/types.write").run Tryz.prog w = .ok (99, .agg #[]) w := by
 obtain ⟨x0, x1, x2, x3, x4, x5, x6, x7, x8, rfl⟩ := arr9 h
 kernel_rfl
theorem mf_sum2 {cs : Array Value} (h : cs.size = 9) (w : World) : (method 284 104 (.agg cs) "rookery/types.sum").run Tryz.prog w = .ok (95, .agg #[]) w := by
 obtain ⟨x0, x1, x2, x3, x4, x5, x6, x7, x8, rfl⟩ := arr9 h
 kernel_rfl
theorem mf_on2 {cs : Array Value} (h : cs.size = 9) (w : World) : (method 284 104 (.agg cs) "rookery/types.on").run Tryz.prog w = .ok (93, .agg #[]) w := by
 obtain ⟨x0, x1, x2, x3, x4, x5, x6, x7, x8, rfl⟩ := arr9 h
 kernel_rfl
theorem mf_text2 {cs : Array Value} (h : cs.size = 9) (w : World) : (method 284 104 (.agg cs) "rookery/types.text").run Tryz.prog w = .ok (97, .agg #[]) w := by
 obtain ⟨x0, x1, x2, x3, x4, x5, x6, x7, x8, rfl⟩ := arr9 h
 kernel_rfl
theorem mf_add3 {cs : Array Value} (h : cs.size = 16) (w : World) : (method 284 106 (.agg cs) "rookery/types.add").run Tryz.prog w = .ok (91, .agg #[]) w := by
 obtain ⟨x0, x1, x2, x3, x4, x5, x6, x7, x8, x9, x10, x11, x12, x13, x14, x15, rfl⟩ := arr16 h
 kernel_rfl
theorem mf_put3 {cs : Array Value} (h : cs.size = 16) (w : World) : (method 284 106 (.agg cs) "rookery/types.put").run Tryz.prog w = .ok (94, .agg #[]) w := by
 obtain ⟨x0, x1, x2, x3, x4, x5, x6, x7, x8, x9, x10, x11, x12, x13, x14, x15, rfl⟩ := arr16 h
 kernel_rfl
theorem mf_write3 {cs : Array Value} (h : cs.size = 16) (w : World) : (method 284 106 (.agg cs) "rookery/types.write").run Tryz.prog w = .ok (99, .agg #[]) w := by
 obtain ⟨x0, x1, x2, x3, x4, x5, x6, x7, x8, x9, x10, x11, x12, x13, x14, x15, rfl⟩ := arr16 h
 kernel_rfl
theorem mf_take3 {cs : Array Value} (h : cs.size = 16) (w : World) : (method 284 106 (.agg cs) "rookery/types.take").run Tryz.prog w = .ok (96, .agg #[]) w := by
 obtain ⟨x0, x1, x2, x3, x4, x5, x6, x7, x8, x9, x10, x11, x12, x13, x14, x15, rfl⟩ := arr16 h
 kernel_rfl
theorem mf_sum3 {cs : Array Value} (h : cs.size = 16) (w : World) : (method 284 106 (.agg cs) "rookery/types.sum").run Tryz.prog w = .ok (95, .agg #[]) w := by
 obtain ⟨x0, x1, x2, x3, x4, x5, x6, x7, x8, x9, x10, x11, x12, x13, x14, x15, rfl⟩ := arr16 h
 kernel_rfl
theorem mf_elements3 {cs : Array Value} (h : cs.size = 16) (w : World) : (method 284 106 (.agg cs) "rookery/types.elements").run Tryz.prog w = .ok (92, .agg #[]) w := by
 obtain ⟨x0, x1, x2, x3, x4, x5, x6, x7, x8, x9, x10, x11, x12, x13, x14, x15, rfl⟩ := arr16 h
 kernel_rfl
theorem mf_text3 {cs : Array Value} (h : cs.size = 16) (w : World) : (method 284 106 (.agg cs) "rookery/types.text").run Tryz.prog w = .ok (97, .agg #[]) w := by
 obtain ⟨x0, x1, x2, x3, x4, x5, x6, x7, x8, x9, x10, x11, x12, x13, x14, x15, rfl⟩ := arr16 h
 kernel_rfl
theorem mf_add4 {cs : Array Value} (h : cs.size = 3) (w : World) : (method 284 108 (.agg cs) "rookery/types.add").run Tryz.prog w = .ok (91, .agg #[]) w := by
 obtain ⟨x0, x1, x2, rfl⟩ := arr3 h
 kernel_rfl
theorem mf_put4 {cs : Array Value} (h : cs.size = 3) (w : World) : (method 284 108 (.agg cs) "rookery/types.put").run Tryz.prog w = .ok (94, .agg #[]) w := by
 obtain ⟨x0, x1, x2, rfl⟩ := arr3 h
 kernel_rfl
theorem mf_turn4 {cs : Array Value} (h : cs.size = 3) (w : World) : (method 284 108 (.agg cs) "rookery/types.turn").run Tryz.prog w = .ok (98, .agg #[]) w := by
 obtain ⟨x0, x1, x2, rfl⟩ := arr3 h
 kernel_rfl
theorem mf_take4 {cs : Array Value} (h : cs.size = 3) (w : World) : (method 284 108 (.agg cs) "rookery/types.take").run Tryz.prog w = .ok (96, .agg #[]) w := by
 obtain ⟨x0, x1, x2, rfl⟩ := arr3 h
 kernel_rfl
theorem mf_sum4 {cs : Array Value} (h : cs.size = 3) (w : World) : (method 284 108 (.agg cs) "rookery/types.sum").run Tryz.prog w = .ok (95, .agg #[]) w := by
 obtain ⟨x0, x1, x2, rfl⟩ := arr3 h
 kernel_rfl
theorem mf_elements4 {cs : Array Value} (h : cs.size = 3) (w : World) : (method 284 108 (.agg cs) "rookery/types.elements").run Tryz.prog w = .ok (92, .agg #[]) w := by
 obtain ⟨x0, x1, x2, rfl⟩ := arr3 h
 kernel_rfl
theorem mf_on4 {cs : Array Value} (h : cs.size = 3) (w : World) : (method 284 108 (.agg cs) "rookery/types.on").run Tryz.prog w = .ok (93, .agg #[]) w := by
 obtain ⟨x0, x1, x2, rfl⟩ := arr3 h
 kernel_rfl
theorem Add1_no {w : World} {V : Nat} {cs : Array Value} (a b : Value) {e : Int} (he : e ≠ 0) (hV : Bd w V (.iface 101 (.agg cs))) (hc : Calls Tryz.prog 101 #[.agg cs, a, b] w fun r w' => r = .returned (.tuple #[.nilIface, .int .i64 e]) ∧ Apart [] w w') : Calls Tryz.prog 15 #[.pointer (some ⟨V, 0, none⟩), a, b] w fun r w' => r = .returned (.int .i64 e) ∧ Apart [] w w' := by
 have z : w.cell? ⟨V, 0, none⟩ = some (.iface 101 (.agg cs)) := zK hV
 have HV := hid hV
 clear hV
 have hm := fun wx => me_add1 cs wx
 have HC := hid hc
 clear hc
 go_enter Tryz.func15, Tryz.ntmps15
 go_wp2_with (go_at_call 101; refine HC.out.mono ?_; rintro _ w1 ⟨rfl, a1⟩; have HA1 := hid a1; clear a1)
 go_wp2_with (go_at_call 34; refine (become_no _ e he).mono ?_; rintro _ _ ⟨rfl, rfl⟩)
 go_wp2_with fail
 go_ret
 exact ⟨rfl, HA1.out⟩
theorem Add1_ok {w : World} {V : Nat} {cs : Array Value} (a b : Value) {d : Value} (hV : Bd w V (.iface 101 (.agg cs))) (hc : Calls Tryz.prog 101 #[.agg cs, a, b] w fun r w' => r = .returned (.tuple #[.iface 101 d, .int .i64 0]) ∧ Apart [] w w') : Calls Tryz.prog 15 #[.pointer (some ⟨V, 0, none⟩), a, b] w fun r w' => r = .returned (.int .i64 0) ∧ Bd w' V (.iface 101 d) ∧ Apart [V] w w' := by
 have z : w.cell? ⟨V, 0, none⟩ = some (.iface 101 (.agg cs)) := zK hV
 have HV := hid hV
 clear hV
 have hm := fun wx => me_add1 cs wx
 have HC := hid hc
 clear hc
 go_enter Tryz.func15, Tryz.ntmps15
 go_wp2_with (go_at_call 101; refine HC.out.mono ?_; rintro _ w1 ⟨rfl, a1⟩; have HA1 := hid a1; clear a1)
 go_wp2_with (go_at_call 34; refine (become_ok (b0 := .iface 101 (.agg cs)) (keep0 HA1.out HV.out) 101 d).mono ?_; rintro _ w2 ⟨rfl, b2, a2⟩; have HA2 := hid (And.intro b2 a2); clear b2 a2)
 go_wp2_with fail
 go_ret
 exact ⟨rfl, HA2.out.1, (HA1.out.mono (by simp)).trans HA2.out.2⟩
theorem Put1_no {w : World} {V : Nat} {cs : Array Value} (a b : Value) {e : Int} (he : e ≠ 0) (hV : Bd w V (.iface 101 (.agg cs))) (hn : cs.size = 16) (hc : Calls Tryz.prog 94 #[.agg #[], a, b] w fun r w' => r = .returned (.tuple #[.nilIface, .int .i64 e]) ∧ Apart [] w w') : Calls Tryz.prog 36 #[.pointer (some ⟨V, 0, none⟩), a, b] w fun r w' => r = .returned (.int .i64 e) ∧ Apart [] w w' := by
 have z : w.cell? ⟨V, 0, none⟩ = some (.iface 101 (.agg cs)) := zK hV
 have HV := hid hV
 clear hV
 have hm := fun wx => mf_put1 hn wx
 have HC := hid hc
 clear hc hn
 go_enter Tryz.func36, Tryz.ntmps36
 go_wp2_with (go_at_call 94; refine HC.out.mono ?_; rintro _ w1 ⟨rfl, a1⟩; have HA1 := hid a1; clear a1)
 go_wp2_with (go_at_call 34; refine (become_no _ e he).mono ?_; rintro _ _ ⟨rfl, rfl⟩)
 go_wp2_with fail
 go_ret
 exact ⟨rfl, HA1.out⟩
theorem Switch1_no {w : World} {V : Nat} {cs : Array Value} (a b : Value) {e : Int} (he : e ≠ 0) (hV : Bd w V (.iface 101 (.agg cs))) (hn : cs.size = 16) (hc : Calls Tryz.prog 98 #[.agg #[], a, b] w fun r w' => r = .returned (.tuple #[.nilIface, .int .i64 e]) ∧ Apart [] w w') : Calls Tryz.prog 38 #[.pointer (some ⟨V, 0, none⟩), a, b] w fun r w' => r = .returned (.int .i64 e) ∧ Apart [] w w' := by
 have z : w.cell? ⟨V, 0, none⟩ = some (.iface 101 (.agg cs)) := zK hV
 have HV := hid hV
 clear hV
 have hm := fun wx => mf_turn1 hn wx
 have HC := hid hc
 clear hc hn
 go_enter Tryz.func38, Tryz.ntmps38
 go_wp2_with (go_at_call 98; refine HC.out.mono ?_; rintro _ w1 ⟨rfl, a1⟩; have HA1 := hid a1; clear a1)
 go_wp2_with (go_at_call 34; refine (become_no _ e he).mono ?_; rintro _ _ ⟨rfl, rfl⟩)
 go_wp2_with fail
 go_ret
 exact ⟨rfl, HA1.out⟩
theorem Write1_no {w : World} {V : Nat} {cs : Array Value} (a b : Value) {e : Int} (he : e ≠ 0) (hV : Bd w V (.iface 101 (.agg cs))) (hn : cs.size = 16) (hc : Calls Tryz.prog 99 #[.agg #[], a, b] w fun r w' => r = .returned (.tuple #[.nilIface, .int .i64 e]) ∧ Apart [] w w') : Calls Tryz.prog 39 #[.pointer (some ⟨V, 0, none⟩), a, b] w fun r w' => r = .returned (.int .i64 e) ∧ Apart [] w w' := by
 have z : w.cell? ⟨V, 0, none⟩ = some (.iface 101 (.agg cs)) := zK hV
 have HV := hid hV
 clear hV
 have hm := fun wx => mf_write1 hn wx
 have HC := hid hc
 clear hc hn
 go_enter Tryz.func39, Tryz.ntmps39
 go_wp2_with (go_at_call 99; refine HC.out.mono ?_; rintro _ w1 ⟨rfl, a1⟩; have HA1 := hid a1; clear a1)
 go_wp2_with (go_at_call 34; refine (become_no _ e he).mono ?_; rintro _ _ ⟨rfl, rfl⟩)
 go_wp2_with fail
 go_ret
 exact ⟨rfl, HA1.out⟩
theorem Take1_no {w : World} {V : Nat} {cs : Array Value} (a : Value) {e : Int} (he : e ≠ 0) (hV : Bd w V (.iface 101 (.agg cs))) (hn : cs.size = 16) (hc : Calls Tryz.prog 96 #[.agg #[], a] w fun r w' => r = .returned (.tuple #[.nilIface, .int .i64 e]) ∧ Apart [] w w') : Calls Tryz.prog 37 #[.pointer (some ⟨V, 0, none⟩), a] w fun r w' => r = .returned (.int .i64 e) ∧ Apart [] w w' := by
 have z : w.cell? ⟨V, 0, none⟩ = some (.iface 101 (.agg cs)) := zK hV
 have HV := hid hV
 clear hV
 have hm := fun wx => mf_take1 hn wx
 have HC := hid hc
 clear hc hn
 go_enter Tryz.func37, Tryz.ntmps37
 go_wp2_with (go_at_call 96; refine HC.out.mono ?_; rintro _ w1 ⟨rfl, a1⟩; have HA1 := hid a1; clear a1)
 go_wp2_with (go_at_call 34; refine (become_no _ e he).mono ?_; rintro _ _ ⟨rfl, rfl⟩)
 go_wp2_with fail
 go_ret
 exact ⟨rfl, HA1.out⟩
theorem Sum1 {w : World} {V : Nat} {cs : Array Value} {x : Value} (hV : Bd w V (.iface 101 (.agg cs))) (hc : Calls Tryz.prog 105 #[.agg cs] w fun r w' => r = .returned x ∧ Apart [] w w') : Calls Tryz.prog 16 #[.pointer (some ⟨V, 0, none⟩)] w fun r w' => r = .returned x ∧ Apart [] w w' := by
 have z : w.cell? ⟨V, 0, none⟩ = some (.iface 101 (.agg cs)) := zK hV
 have HV := hid hV
 clear hV
 have hm := fun wx => me_sum1 cs wx
 have HC := hid hc
 clear hc
 go_enter Tryz.func16, Tryz.ntmps16
 go_wp2_with (go_at_call 105; refine HC.out.mono ?_; rintro _ w1 ⟨rfl, a1⟩; have HA1 := hid a1; clear a1)
 go_wp2_with fail
 go_ret
 exact ⟨rfl, HA1.out⟩
theorem Elements1 {w : World} {V : Nat} {cs : Array Value} {x : Value} (hV : Bd w V (.iface 101 (.agg cs))) (hn : cs.size = 16) (hc : Calls Tryz.prog 92 #[.agg #[]] w fun r w' => r = .returned x ∧ Apart [] w w') : Calls Tryz.prog 31 #[.pointer (some ⟨V, 0, none⟩)] w fun r w' => r = .returned x ∧ Apart [] w w' := by
 have z : w.cell? ⟨V, 0, none⟩ = some (.iface 101 (.agg cs)) := zK hV
 have HV := hid hV
 clear hV
 have hm := fun wx => mf_elements1 hn wx
 have HC := hid hc
 clear hc hn
 go_enter Tryz.func31, Tryz.ntmps31
 go_wp2_with (go_at_call 92; refine HC.out.mono ?_; rintro _ w1 ⟨rfl, a1⟩; have HA1 := hid a1; clear a1)
 go_wp2_with fail
 go_ret
 exact ⟨rfl, HA1.out⟩
theorem On1 {w : World} {V : Nat} {cs : Array Value} {x : Value} (hV : Bd w V (.iface 101 (.agg cs))) (hn : cs.size = 16) (hc : Calls Tryz.prog 93 #[.agg #[]] w fun r w' => r = .returned x ∧ Apart [] w w') : Calls Tryz.prog 29 #[.pointer (some ⟨V, 0, none⟩)] w fun r w' => r = .returned x ∧ Apart [] w w' := by
 have z : w.cell? ⟨V, 0, none⟩ = some (.iface 101 (.agg cs)) := zK hV
 have HV := hid hV
 clear hV
 have hm := fun wx => mf_on1 hn wx
 have HC := hid hc
 clear hc hn
 go_enter Tryz.func29, Tryz.ntmps29
 go_wp2_with (go_at_call 93; refine HC.out.mono ?_; rintro _ w1 ⟨rfl, a1⟩; have HA1 := hid a1; clear a1)
 go_wp2_with fail
 go_ret
 exact ⟨rfl, HA1.out⟩
theorem Text1 {w : World} {V : Nat} {cs : Array Value} {x : Value} (hV : Bd w V (.iface 101 (.agg cs))) (hn : cs.size = 16) (hc : Calls Tryz.prog 97 #[.agg #[]] w fun r w' => r = .returned x ∧ Apart [] w w') : Calls Tryz.prog 27 #[.pointer (some ⟨V, 0, none⟩)] w fun r w' => r = .returned x ∧ Apart [] w w' := by
 have z : w.cell? ⟨V, 0, none⟩ = some (.iface 101 (.agg cs)) := zK hV
 have HV := hid hV
 clear hV
 have hm := fun wx => mf_text1 hn wx
 have HC := hid hc
 clear hc hn
 go_enter Tryz.func27, Tryz.ntmps27
 go_wp2_with (go_at_call 97; refine HC.out.mono ?_; rintro _ w1 ⟨rfl, a1⟩; have HA1 := hid a1; clear a1)
 go_wp2_with fail
 go_ret
 exact ⟨rfl, HA1.out⟩
theorem Add2_no {w : World} {V : Nat} {cs : Array Value} (a b : Value) {e : Int} (he : e ≠ 0) (hV : Bd w V (.iface 104 (.agg cs))) (hn : cs.size = 9) (hc : Calls Tryz.prog 91 #[.agg #[], a, b] w fun r w' => r = .returned (.tuple #[.nilIface, .int .i64 e]) ∧ Apart [] w w') : Calls Tryz.prog 15 #[.pointer (some ⟨V, 0, none⟩), a, b] w fun r w' => r = .returned (.int .i64 e) ∧ Apart [] w w' := by
 have z : w.cell? ⟨V, 0, none⟩ = some (.iface 104 (.agg cs)) := zK hV
 have HV := hid hV
 clear hV
 have hm := fun wx => mf_add2 hn wx
 have HC := hid hc
 clear hc hn
 go_enter Tryz.func15, Tryz.ntmps15
 go_wp2_with (go_at_call 91; refine HC.out.mono ?_; rintro _ w1 ⟨rfl, a1⟩; have HA1 := hid a1; clear a1)
 go_wp2_with (go_at_call 34; refine (become_no _ e he).mono ?_; rintro _ _ ⟨rfl, rfl⟩)
 go_wp2_with fail
 go_ret
 exact ⟨rfl, HA1.out⟩
theorem Put2_no {w : World} {V : Nat} {cs : Array Value} (a b : Value) {e : Int} (he : e ≠ 0) (hV : Bd w V (.iface 104 (.agg cs))) (hc : Calls Tryz.prog 114 #[.agg cs, a, b] w fun r w' => r = .returned (.tuple #[.nilIface, .int .i64 e]) ∧ Apart [] w w') : Calls Tryz.prog 36 #[.pointer (some ⟨V, 0, none⟩), a, b] w fun r w' => r = .returned (.int .i64 e) ∧ Apart [] w w' := by
 have z : w.cell? ⟨V, 0, none⟩ = some (.iface 104 (.agg cs)) := zK hV
 have HV := hid hV
 clear hV
 have hm := fun wx => me_put2 cs wx
 have HC := hid hc
 clear hc
 go_enter Tryz.func36, Tryz.ntmps36
 go_wp2_with (go_at_call 114; refine HC.out.mono ?_; rintro _ w1 ⟨rfl, a1⟩; have HA1 := hid a1; clear a1)
 go_wp2_with (go_at_call 34; refine (become_no _ e he).mono ?_; rintro _ _ ⟨rfl, rfl⟩)
 go_wp2_with fail
 go_ret
 exact ⟨rfl, HA1.out⟩
theorem Switch2_no {w : World} {V : Nat} {cs : Array Value} (a b : Value) {e : Int} (he : e ≠ 0) (hV : Bd w V (.iface 104 (.agg cs))) (hn : cs.size = 9) (hc : Calls Tryz.prog 98 #[.agg #[], a, b] w fun r w' => r = .returned (.tuple #[.nilIface, .int .i64 e]) ∧ Apart [] w w') : Calls Tryz.prog 38 #[.pointer (some ⟨V, 0, none⟩), a, b] w fun r w' => r = .returned (.int .i64 e) ∧ Apart [] w w' := by
 have z : w.cell? ⟨V, 0, none⟩ = some (.iface 104 (.agg cs)) := zK hV
 have HV := hid hV
 clear hV
 have hm := fun wx => mf_turn2 hn wx
 have HC := hid hc
 clear hc hn
 go_enter Tryz.func38, Tryz.ntmps38
 go_wp2_with (go_at_call 98; refine HC.out.mono ?_; rintro _ w1 ⟨rfl, a1⟩; have HA1 := hid a1; clear a1)
 go_wp2_with (go_at_call 34; refine (become_no _ e he).mono ?_; rintro _ _ ⟨rfl, rfl⟩)
 go_wp2_with fail
 go_ret
 exact ⟨rfl, HA1.out⟩
theorem Write2_no {w : World} {V : Nat} {cs : Array Value} (a b : Value) {e : Int} (he : e ≠ 0) (hV : Bd w V (.iface 104 (.agg cs))) (hn : cs.size = 9) (hc : Calls Tryz.prog 99 #[.agg #[], a, b] w fun r w' => r = .returned (.tuple #[.nilIface, .int .i64 e]) ∧ Apart [] w w') : Calls Tryz.prog 39 #[.pointer (some ⟨V, 0, none⟩), a, b] w fun r w' => r = .returned (.int .i64 e) ∧ Apart [] w w' := by
 have z : w.cell? ⟨V, 0, none⟩ = some (.iface 104 (.agg cs)) := zK hV
 have HV := hid hV
 clear hV
 have hm := fun wx => mf_write2 hn wx
 have HC := hid hc
 clear hc hn
 go_enter Tryz.func39, Tryz.ntmps39
 go_wp2_with (go_at_call 99; refine HC.out.mono ?_; rintro _ w1 ⟨rfl, a1⟩; have HA1 := hid a1; clear a1)
 go_wp2_with (go_at_call 34; refine (become_no _ e he).mono ?_; rintro _ _ ⟨rfl, rfl⟩)
 go_wp2_with fail
 go_ret
 exact ⟨rfl, HA1.out⟩
theorem Sum2 {w : World} {V : Nat} {cs : Array Value} {x : Value} (hV : Bd w V (.iface 104 (.agg cs))) (hn : cs.size = 9) (hc : Calls Tryz.prog 95 #[.agg #[]] w fun r w' => r = .returned x ∧ Apart [] w w') : Calls Tryz.prog 16 #[.pointer (some ⟨V, 0, none⟩)] w fun r w' => r = .returned x ∧ Apart [] w w' := by
 have z : w.cell? ⟨V, 0, none⟩ = some (.iface 104 (.agg cs)) := zK hV
 have HV := hid hV
 clear hV
 have hm := fun wx => mf_sum2 hn wx
 have HC := hid hc
 clear hc hn
 go_enter Tryz.func16, Tryz.ntmps16
 go_wp2_with (go_at_call 95; refine HC.out.mono ?_; rintro _ w1 ⟨rfl, a1⟩; have HA1 := hid a1; clear a1)
 go_wp2_with fail
 go_ret
 exact ⟨rfl, HA1.out⟩
theorem On2 {w : World} {V : Nat} {cs : Array Value} {x : Value} (hV : Bd w V (.iface 104 (.agg cs))) (hn : cs.size = 9) (hc : Calls Tryz.prog 93 #[.agg #[]] w fun r w' => r = .returned x ∧ Apart [] w w') : Calls Tryz.prog 29 #[.pointer (some ⟨V, 0, none⟩)] w fun r w' => r = .returned x ∧ Apart [] w w' := by
 have z : w.cell? ⟨V, 0, none⟩ = some (.iface 104 (.agg cs)) := zK hV
 have HV := hid hV
 clear hV
 have hm := fun wx => mf_on2 hn wx
 have HC := hid hc
 clear hc hn
 go_enter Tryz.func29, Tryz.ntmps29
 go_wp2_with (go_at_call 93; refine HC.out.mono ?_; rintro _ w1 ⟨rfl, a1⟩; have HA1 := hid a1; clear a1)
 go_wp2_with fail
 go_ret
 exact ⟨rfl, HA1.out⟩
theorem Text2 {w : World} {V : Nat} {cs : Array Value} {x : Value} (hV : Bd w V (.iface 104 (.agg cs))) (hn : cs.size = 9) (hc : Calls Tryz.prog 97 #[.agg #[]] w fun r w' => r = .returned x ∧ Apart [] w w') : Calls Tryz.prog 27 #[.pointer (some ⟨V, 0, none⟩)] w fun r w' => r = .returned x ∧ Apart [] w w' := by
 have z : w.cell? ⟨V, 0, none⟩ = some (.iface 104 (.agg cs)) := zK hV
 have HV := hid hV
 clear hV
 have hm := fun wx => mf_text2 hn wx
 have HC := hid hc
 clear hc hn
 go_enter Tryz.func27, Tryz.ntmps27
 go_wp2_with (go_at_call 97; refine HC.out.mono ?_; rintro _ w1 ⟨rfl, a1⟩; have HA1 := hid a1; clear a1)
 go_wp2_with fail
 go_ret
 exact ⟨rfl, HA1.out⟩
theorem Add3_no {w : World} {V : Nat} {cs : Array Value} (a b : Value) {e : Int} (he : e ≠ 0) (hV : Bd w V (.iface 106 (.agg cs))) (hn : cs.size = 16) (hc : Calls Tryz.prog 91 #[.agg #[], a, b] w fun r w' => r = .returned (.tuple #[.nilIface, .int .i64 e]) ∧ Apart [] w w') : Calls Tryz.prog 15 #[.pointer (some ⟨V, 0, none⟩), a, b] w fun r w' => r = .returned (.int .i64 e) ∧ Apart [] w w' := by
 have z : w.cell? ⟨V, 0, none⟩ = some (.iface 106 (.agg cs)) := zK hV
 have HV := hid hV
 clear hV
 have hm := fun wx => mf_add3 hn wx
 have HC := hid hc
 clear hc hn
 go_enter Tryz.func15, Tryz.ntmps15
 go_wp2_with (go_at_call 91; refine HC.out.mono ?_; rintro _ w1 ⟨rfl, a1⟩; have HA1 := hid a1; clear a1)
 go_wp2_with (go_at_call 34; refine (become_no _ e he).mono ?_; rintro _ _ ⟨rfl, rfl⟩)
 go_wp2_with fail
 go_ret
 exact ⟨rfl, HA1.out⟩
theorem Put3_no {w : World} {V : Nat} {cs : Array Value} (a b : Value) {e : Int} (he : e ≠ 0) (hV : Bd w V (.iface 106 (.agg cs))) (hn : cs.size = 16) (hc : Calls Tryz.prog 94 #[.agg #[], a, b] w fun r w' => r = .returned (.tuple #[.nilIface, .int .i64 e]) ∧ Apart [] w w') : Calls Tryz.prog 36 #[.pointer (some ⟨V, 0, none⟩), a, b] w fun r w' => r = .returned (.int .i64 e) ∧ Apart [] w w' := by
 have z : w.cell? ⟨V, 0, none⟩ = some (.iface 106 (.agg cs)) := zK hV
 have HV := hid hV
 clear hV
 have hm := fun wx => mf_put3 hn wx
 have HC := hid hc
 clear hc hn
 go_enter Tryz.func36, Tryz.ntmps36
 go_wp2_with (go_at_call 94; refine HC.out.mono ?_; rintro _ w1 ⟨rfl, a1⟩; have HA1 := hid a1; clear a1)
 go_wp2_with (go_at_call 34; refine (become_no _ e he).mono ?_; rintro _ _ ⟨rfl, rfl⟩)
 go_wp2_with fail
 go_ret
 exact ⟨rfl, HA1.out⟩
theorem Switch3_no {w : World} {V : Nat} {cs : Array Value} (a b : Value) {e : Int} (he : e ≠ 0) (hV : Bd w V (.iface 106 (.agg cs))) (hc : Calls Tryz.prog 132 #[.agg cs, a, b] w fun r w' => r = .returned (.tuple #[.nilIface, .int .i64 e]) ∧ Apart [] w w') : Calls Tryz.prog 38 #[.pointer (some ⟨V, 0, none⟩), a, b] w fun r w' => r = .returned (.int .i64 e) ∧ Apart [] w w' := by
 have z : w.cell? ⟨V, 0, none⟩ = some (.iface 106 (.agg cs)) := zK hV
 have HV := hid hV
 clear hV
 have hm := fun wx => me_turn3 cs wx
 have HC := hid hc
 clear hc
 go_enter Tryz.func38, Tryz.ntmps38
 go_wp2_with (go_at_call 132; refine HC.out.mono ?_; rintro _ w1 ⟨rfl, a1⟩; have HA1 := hid a1; clear a1)
 go_wp2_with (go_at_call 34; refine (become_no _ e he).mono ?_; rintro _ _ ⟨rfl, rfl⟩)
 go_wp2_with fail
 go_ret
 exact ⟨rfl, HA1.out⟩
theorem Switch3_ok {w : World} {V : Nat} {cs : Array Value} (a b : Value) {d : Value} (hV : Bd w V (.iface 106 (.agg cs))) (hc : Calls Tryz.prog 132 #[.agg cs, a, b] w fun r w' => r = .returned (.tuple #[.iface 106 d, .int .i64 0]) ∧ Apart [] w w') : Calls Tryz.prog 38 #[.pointer (some ⟨V, 0, none⟩), a, b] w fun r w' => r = .returned (.int .i64 0) ∧ Bd w' V (.iface 106 d) ∧ Apart [V] w w' := by
 have z : w.cell? ⟨V, 0, none⟩ = some (.iface 106 (.agg cs)) := zK hV
 have HV := hid hV
 clear hV
 have hm := fun wx => me_turn3 cs wx
 have HC := hid hc
 clear hc
 go_enter Tryz.func38, Tryz.ntmps38
 go_wp2_with (go_at_call 132; refine HC.out.mono ?_; rintro _ w1 ⟨rfl, a1⟩; have HA1 := hid a1; clear a1)
 go_wp2_with (go_at_call 34; refine (become_ok (b0 := .iface 106 (.agg cs)) (keep0 HA1.out HV.out) 106 d).mono ?_; rintro _ w2 ⟨rfl, b2, a2⟩; have HA2 := hid (And.intro b2 a2); clear b2 a2)
 go_wp2_with fail
 go_ret
 exact ⟨rfl, HA2.out.1, (HA1.out.mono (by simp)).trans HA2.out.2⟩
theorem Write3_no {w : World} {V : Nat} {cs : Array Value} (a b : Value) {e : Int} (he : e ≠ 0) (hV : Bd w V (.iface 106 (.agg cs))) (hn : cs.size = 16) (hc : Calls Tryz.prog 99 #[.agg #[], a, b] w fun r w' => r = .returned (.tuple #[.nilIface, .int .i64 e]) ∧ Apart [] w w') : Calls Tryz.prog 39 #[.pointer (some ⟨V, 0, none⟩), a, b] w fun r w' => r = .returned (.int .i64 e) ∧ Apart [] w w' := by
 have z : w.cell? ⟨V, 0, none⟩ = some (.iface 106 (.agg cs)) := zK hV
 have HV := hid hV
 clear hV
 have hm := fun wx => mf_write3 hn wx
 have HC := hid hc
 clear hc hn
 go_enter Tryz.func39, Tryz.ntmps39
 go_wp2_with (go_at_call 99; refine HC.out.mono ?_; rintro _ w1 ⟨rfl, a1⟩; have HA1 := hid a1; clear a1)
 go_wp2_with (go_at_call 34; refine (become_no _ e he).mono ?_; rintro _ _ ⟨rfl, rfl⟩)
 go_wp2_with fail
 go_ret
 exact ⟨rfl, HA1.out⟩
theorem Take3_no {w : World} {V : Nat} {cs : Array Value} (a : Value) {e : Int} (he : e ≠ 0) (hV : Bd w V (.iface 106 (.agg cs))) (hn : cs.size = 16) (hc : Calls Tryz.prog 96 #[.agg #[], a] w fun r w' => r = .returned (.tuple #[.nilIface, .int .i64 e]) ∧ Apart [] w w') : Calls Tryz.prog 37 #[.pointer (some ⟨V, 0, none⟩), a] w fun r w' => r = .returned (.int .i64 e) ∧ Apart [] w w' := by
 have z : w.cell? ⟨V, 0, none⟩ = some (.iface 106 (.agg cs)) := zK hV
 have HV := hid hV
 clear hV
 have hm := fun wx => mf_take3 hn wx
 have HC := hid hc
 clear hc hn
 go_enter Tryz.func37, Tryz.ntmps37
 go_wp2_with (go_at_call 96; refine HC.out.mono ?_; rintro _ w1 ⟨rfl, a1⟩; have HA1 := hid a1; clear a1)
 go_wp2_with (go_at_call 34; refine (become_no _ e he).mono ?_; rintro _ _ ⟨rfl, rfl⟩)
 go_wp2_with fail
 go_ret
 exact ⟨rfl, HA1.out⟩
theorem Sum3 {w : World} {V : Nat} {cs : Array Value} {x : Value} (hV : Bd w V (.iface 106 (.agg cs))) (hn : cs.size = 16) (hc : Calls Tryz.prog 95 #[.agg #[]] w fun r w' => r = .returned x ∧ Apart [] w w') : Calls Tryz.prog 16 #[.pointer (some ⟨V, 0, none⟩)] w fun r w' => r = .returned x ∧ Apart [] w w' := by
 have z : w.cell? ⟨V, 0, none⟩ = some (.iface 106 (.agg cs)) := zK hV
 have HV := hid hV
 clear hV
 have hm := fun wx => mf_sum3 hn wx
 have HC := hid hc
 clear hc hn
 go_enter Tryz.func16, Tryz.ntmps16
 go_wp2_with (go_at_call 95; refine HC.out.mono ?_; rintro _ w1 ⟨rfl, a1⟩; have HA1 := hid a1; clear a1)
 go_wp2_with fail
 go_ret
 exact ⟨rfl, HA1.out⟩
theorem Elements3 {w : World} {V : Nat} {cs : Array Value} {x : Value} (hV : Bd w V (.iface 106 (.agg cs))) (hn : cs.size = 16) (hc : Calls Tryz.prog 92 #[.agg #[]] w fun r w' => r = .returned x ∧ Apart [] w w') : Calls Tryz.prog 31 #[.pointer (some ⟨V, 0, none⟩)] w fun r w' => r = .returned x ∧ Apart [] w w' := by
 have z : w.cell? ⟨V, 0, none⟩ = some (.iface 106 (.agg cs)) := zK hV
 have HV := hid hV
 clear hV
 have hm := fun wx => mf_elements3 hn wx
 have HC := hid hc
 clear hc hn
 go_enter Tryz.func31, Tryz.ntmps31
 go_wp2_with (go_at_call 92; refine HC.out.mono ?_; rintro _ w1 ⟨rfl, a1⟩; have HA1 := hid a1; clear a1)
 go_wp2_with fail
 go_ret
 exact ⟨rfl, HA1.out⟩
theorem On3 {w : World} {V : Nat} {cs : Array Value} {x : Value} (hV : Bd w V (.iface 106 (.agg cs))) (hc : Calls Tryz.prog 129 #[.agg cs] w fun r w' => r = .returned x ∧ Apart [] w w') : Calls Tryz.prog 29 #[.pointer (some ⟨V, 0, none⟩)] w fun r w' => r = .returned x ∧ Apart [] w w' := by
 have z : w.cell? ⟨V, 0, none⟩ = some (.iface 106 (.agg cs)) := zK hV
 have HV := hid hV
 clear hV
 have hm := fun wx => me_on3 cs wx
 have HC := hid hc
 clear hc
 go_enter Tryz.func29, Tryz.ntmps29
 go_wp2_with (go_at_call 129; refine HC.out.mono ?_; rintro _ w1 ⟨rfl, a1⟩; have HA1 := hid a1; clear a1)
 go_wp2_with fail
 go_ret
 exact ⟨rfl, HA1.out⟩
theorem Text3 {w : World} {V : Nat} {cs : Array Value} {x : Value} (hV : Bd w V (.iface 106 (.agg cs))) (hn : cs.size = 16) (hc : Calls Tryz.prog 97 #[.agg #[]] w fun r w' => r = .returned x ∧ Apart [] w w') : Calls Tryz.prog 27 #[.pointer (some ⟨V, 0, none⟩)] w fun r w' => r = .returned x ∧ Apart [] w w' := by
 have z : w.cell? ⟨V, 0, none⟩ = some (.iface 106 (.agg cs)) := zK hV
 have HV := hid hV
 clear hV
 have hm := fun wx => mf_text3 hn wx
 have HC := hid hc
 clear hc hn
 go_enter Tryz.func27, Tryz.ntmps27
 go_wp2_with (go_at_call 97; refine HC.out.mono ?_; rintro _ w1 ⟨rfl, a1⟩; have HA1 := hid a1; clear a1)
 go_wp2_with fail
 go_ret
 exact ⟨rfl, HA1.out⟩
theorem Add4_no {w : World} {V : Nat} {cs : Array Value} (a b : Value) {e : Int} (he : e ≠ 0) (hV : Bd w V (.iface 108 (.agg cs))) (hn : cs.size = 3) (hc : Calls Tryz.prog 91 #[.agg #[], a, b] w fun r w' => r = .returned (.tuple #[.nilIface, .int .i64 e]) ∧ Apart [] w w') : Calls Tryz.prog 15 #[.pointer (some ⟨V, 0, none⟩), a, b] w fun r w' => r = .returned (.int .i64 e) ∧ Apart [] w w' := by
 have z : w.cell? ⟨V, 0, none⟩ = some (.iface 108 (.agg cs)) := zK hV
 have HV := hid hV
 clear hV
 have hm := fun wx => mf_add4 hn wx
 have HC := hid hc
 clear hc hn
 go_enter Tryz.func15, Tryz.ntmps15
 go_wp2_with (go_at_call 91; refine HC.out.mono ?_; rintro _ w1 ⟨rfl, a1⟩; have HA1 := hid a1; clear a1)
 go_wp2_with (go_at_call 34; refine (become_no _ e he).mono ?_; rintro _ _ ⟨rfl, rfl⟩)
 go_wp2_with fail
 go_ret
 exact ⟨rfl, HA1.out⟩
theorem Put4_no {w : World} {V : Nat} {cs : Array Value} (a b : Value) {e : Int} (he : e ≠ 0) (hV : Bd w V (.iface 108 (.agg cs))) (hn : cs.size = 3) (hc : Calls Tryz.prog 94 #[.agg #[], a, b] w fun r w' => r = .returned (.tuple #[.nilIface, .int .i64 e]) ∧ Apart [] w w') : Calls Tryz.prog 36 #[.pointer (some ⟨V, 0, none⟩), a, b] w fun r w' => r = .returned (.int .i64 e) ∧ Apart [] w w' := by
 have z : w.cell? ⟨V, 0, none⟩ = some (.iface 108 (.agg cs)) := zK hV
 have HV := hid hV
 clear hV
 have hm := fun wx => mf_put4 hn wx
 have HC := hid hc
 clear hc hn
 go_enter Tryz.func36, Tryz.ntmps36
 go_wp2_with (go_at_call 94; refine HC.out.mono ?_; rintro _ w1 ⟨rfl, a1⟩; have HA1 := hid a1; clear a1)
 go_wp2_with (go_at_call 34; refine (become_no _ e he).mono ?_; rintro _ _ ⟨rfl, rfl⟩)
 go_wp2_with fail
 go_ret
 exact ⟨rfl, HA1.out⟩
theorem Switch4_no {w : World} {V : Nat} {cs : Array Value} (a b : Value) {e : Int} (he : e ≠ 0) (hV : Bd w V (.iface 108 (.agg cs))) (hn : cs.size = 3) (hc : Calls Tryz.prog 98 #[.agg #[], a, b] w fun r w' => r = .returned (.tuple #[.nilIface, .int .i64 e]) ∧ Apart [] w w') : Calls Tryz.prog 38 #[.pointer (some ⟨V, 0, none⟩), a, b] w fun r w' => r = .returned (.int .i64 e) ∧ Apart [] w w' := by
 have z : w.cell? ⟨V, 0, none⟩ = some (.iface 108 (.agg cs)) := zK hV
 have HV := hid hV
 clear hV
 have hm := fun wx => mf_turn4 hn wx
 have HC := hid hc
 clear hc hn
 go_enter Tryz.func38, Tryz.ntmps38
 go_wp2_with (go_at_call 98; refine HC.out.mono ?_; rintro _ w1 ⟨rfl, a1⟩; have HA1 := hid a1; clear a1)
 go_wp2_with (go_at_call 34; refine (become_no _ e he).mono ?_; rintro _ _ ⟨rfl, rfl⟩)
 go_wp2_with fail
 go_ret
 exact ⟨rfl, HA1.out⟩
theorem Write4_no {w : World} {V : Nat} {cs : Array Value} (a b : Value) {e : Int} (he : e ≠ 0) (hV : Bd w V (.iface 108 (.agg cs))) (hc : Calls Tryz.prog 137 #[.agg cs, a, b] w fun r w' => r = .returned (.tuple #[.nilIface, .int .i64 e]) ∧ Apart [] w w') : Calls Tryz.prog 39 #[.pointer (some ⟨V, 0, none⟩), a, b] w fun r w' => r = .returned (.int .i64 e) ∧ Apart [] w w' := by
 have z : w.cell? ⟨V, 0, none⟩ = some (.iface 108 (.agg cs)) := zK hV
 have HV := hid hV
 clear hV
 have hm := fun wx => me_write4 cs wx
 have HC := hid hc
 clear hc
 go_enter Tryz.func39, Tryz.ntmps39
 go_wp2_with (go_at_call 137; refine HC.out.mono ?_; rintro _ w1 ⟨rfl, a1⟩; have HA1 := hid a1; clear a1)
 go_wp2_with (go_at_call 34; refine (become_no _ e he).mono ?_; rintro _ _ ⟨rfl, rfl⟩)
 go_wp2_with fail
 go_ret
 exact ⟨rfl, HA1.out⟩
theorem Write4_ok {w : World} {V : Nat} {cs : Array Value} (a b : Value) {d : Value} (hV : Bd w V (.iface 108 (.agg cs))) (hc : Calls Tryz.prog 137 #[.agg cs, a, b] w fun r w' => r = .returned (.tuple #[.iface 108 d, .int .i64 0]) ∧ Apart [] w w') : Calls Tryz.prog 39 #[.pointer (some ⟨V, 0, none⟩), a, b] w fun r w' => r = .returned (.int .i64 0) ∧ Bd w' V (.iface 108 d) ∧ Apart [V] w w' := by
 have z : w.cell? ⟨V, 0, none⟩ = some (.iface 108 (.agg cs)) := zK hV
 have HV := hid hV
 clear hV
 have hm := fun wx => me_write4 cs wx
 have HC := hid hc
 clear hc
 go_enter Tryz.func39, Tryz.ntmps39
 go_wp2_with (go_at_call 137; refine HC.out.mono ?_; rintro _ w1 ⟨rfl, a1⟩; have HA1 := hid a1; clear a1)
 go_wp2_with (go_at_call 34; refine (become_ok (b0 := .iface 108 (.agg cs)) (keep0 HA1.out HV.out) 108 d).mono ?_; rintro _ w2 ⟨rfl, b2, a2⟩; have HA2 := hid (And.intro b2 a2); clear b2 a2)
 go_wp2_with fail
 go_ret
 exact ⟨rfl, HA2.out.1, (HA1.out.mono (by simp)).trans HA2.out.2⟩
theorem Take4_no {w : World} {V : Nat} {cs : Array Value} (a : Value) {e : Int} (he : e ≠ 0) (hV : Bd w V (.iface 108 (.agg cs))) (hn : cs.size = 3) (hc : Calls Tryz.prog 96 #[.agg #[], a] w fun r w' => r = .returned (.tuple #[.nilIface, .int .i64 e]) ∧ Apart [] w w') : Calls Tryz.prog 37 #[.pointer (some ⟨V, 0, none⟩), a] w fun r w' => r = .returned (.int .i64 e) ∧ Apart [] w w' := by
 have z : w.cell? ⟨V, 0, none⟩ = some (.iface 108 (.agg cs)) := zK hV
 have HV := hid hV
 clear hV
 have hm := fun wx => mf_take4 hn wx
 have HC := hid hc
 clear hc hn
 go_enter Tryz.func37, Tryz.ntmps37
 go_wp2_with (go_at_call 96; refine HC.out.mono ?_; rintro _ w1 ⟨rfl, a1⟩; have HA1 := hid a1; clear a1)
 go_wp2_with (go_at_call 34; refine (become_no _ e he).mono ?_; rintro _ _ ⟨rfl, rfl⟩)
 go_wp2_with fail
 go_ret
 exact ⟨rfl, HA1.out⟩
theorem Sum4 {w : World} {V : Nat} {cs : Array Value} {x : Value} (hV : Bd w V (.iface 108 (.agg cs))) (hn : cs.size = 3) (hc : Calls Tryz.prog 95 #[.agg #[]] w fun r w' => r = .returned x ∧ Apart [] w w') : Calls Tryz.prog 16 #[.pointer (some ⟨V, 0, none⟩)] w fun r w' => r = .returned x ∧ Apart [] w w' := by
 have z : w.cell? ⟨V, 0, none⟩ = some (.iface 108 (.agg cs)) := zK hV
 have HV := hid hV
 clear hV
 have hm := fun wx => mf_sum4 hn wx
 have HC := hid hc
 clear hc hn
 go_enter Tryz.func16, Tryz.ntmps16
 go_wp2_with (go_at_call 95; refine HC.out.mono ?_; rintro _ w1 ⟨rfl, a1⟩; have HA1 := hid a1; clear a1)
 go_wp2_with fail
 go_ret
 exact ⟨rfl, HA1.out⟩
theorem Elements4 {w : World} {V : Nat} {cs : Array Value} {x : Value} (hV : Bd w V (.iface 108 (.agg cs))) (hn : cs.size = 3) (hc : Calls Tryz.prog 92 #[.agg #[]] w fun r w' => r = .returned x ∧ Apart [] w w') : Calls Tryz.prog 31 #[.pointer (some ⟨V, 0, none⟩)] w fun r w' => r = .returned x ∧ Apart [] w w' := by
 have z : w.cell? ⟨V, 0, none⟩ = some (.iface 108 (.agg cs)) := zK hV
 have HV := hid hV
 clear hV
 have hm := fun wx => mf_elements4 hn wx
 have HC := hid hc
 clear hc hn
 go_enter Tryz.func31, Tryz.ntmps31
 go_wp2_with (go_at_call 92; refine HC.out.mono ?_; rintro _ w1 ⟨rfl, a1⟩; have HA1 := hid a1; clear a1)
 go_wp2_with fail
 go_ret
 exact ⟨rfl, HA1.out⟩
theorem On4 {w : World} {V : Nat} {cs : Array Value} {x : Value} (hV : Bd w V (.iface 108 (.agg cs))) (hn : cs.size = 3) (hc : Calls Tryz.prog 93 #[.agg #[]] w fun r w' => r = .returned x ∧ Apart [] w w') : Calls Tryz.prog 29 #[.pointer (some ⟨V, 0, none⟩)] w fun r w' => r = .returned x ∧ Apart [] w w' := by
 have z : w.cell? ⟨V, 0, none⟩ = some (.iface 108 (.agg cs)) := zK hV
 have HV := hid hV
 clear hV
 have hm := fun wx => mf_on4 hn wx
 have HC := hid hc
 clear hc hn
 go_enter Tryz.func29, Tryz.ntmps29
 go_wp2_with (go_at_call 93; refine HC.out.mono ?_; rintro _ w1 ⟨rfl, a1⟩; have HA1 := hid a1; clear a1)
 go_wp2_with fail
 go_ret
 exact ⟨rfl, HA1.out⟩
end Go.Proofs.YtdbeeikjngnnnaaGreat.ty
