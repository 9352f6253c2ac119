import Derived.Test.YtdbeeikjngnnnaaG5
namespace Go.Proofs.Ytdbeeikjngnnnaa.ty
open Go.ChangeShapes Go.WideShapes Go.ChangeAt Go.RowKit
set_option linter.unusedVariables false
set_option linter.unusedSimpArgs false
theorem me_add1 (cs : Array Value) (w : World) : (method 247 88 (.agg cs) "rookery/types.add").run Try.prog w = .ok (76, .agg cs) w := by kernel_rfl
theorem me_put1 (x0 x1 x2 x3 x4 x5 x6 x7 x8 x9 x10 x11 x12 x13 x14 x15 : Value) (w : World) : (method 247 88 (.agg #[x0, x1, x2, x3, x4, x5, x6, x7, x8, x9, x10, x11, x12, x13, x14, x15]) "rookery/types.put").run Try.prog w = .ok (69, .agg #[]) w := by kernel_rfl
theorem me_turn1 (x0 x1 x2 x3 x4 x5 x6 x7 x8 x9 x10 x11 x12 x13 x14 x15 : Value) (w : World) : (method 247 88 (.agg #[x0, x1, x2, x3, x4, x5, x6, x7, x8, x9, x10, x11, x12, x13, x14, x15]) "rookery/types.turn").run Try.prog w = .ok (73, .agg #[]) w := by kernel_rfl
theorem me_write1 (x0 x1 x2 x3 x4 x5 x6 x7 x8 x9 x10 x11 x12 x13 x14 x15 : Value) (w : World) : (method 247 88 (.agg #[x0, x1, x2, x3, x4, x5, x6, x7, x8, x9, x10, x11, x12, x13, x14, x15]) "rookery/types.write").run Try.prog w = .ok (74, .agg #[]) w := by kernel_rfl
theorem me_take1 (x0 x1 x2 x3 x4 x5 x6 x7 x8 x9 x10 x11 x12 x13 x14 x15 : Value) (w : World) : (method 247 88 (.agg #[x0, x1, x2, x3, x4, x5, x6, x7, x8, x9, x10, x11, x12, x13, x14, x15]) "rookery/types.take").run Try.prog w = .ok (71, .agg #[]) w := by kernel_rfl
theorem me_sum1 (cs : Array Value) (w : World) : (method 247 88 (.agg cs) "rookery/types.sum").run Try.prog w = .ok (80, .agg cs) w := by kernel_rfl
theorem me_elements1 (x0 x1 x2 x3 x4 x5 x6 x7 x8 x9 x10 x11 x12 x13 x14 x15 : Value) (w : World) : (method 247 88 (.agg #[x0, x1, x2, x3, x4, x5, x6, x7, x8, x9, x10, x11, x12, x13, x14, x15]) "rookery/types.elements").run Try.prog w = .ok (67, .agg #[]) w := by kernel_rfl
theorem me_on1 (x0 x1 x2 x3 x4 x5 x6 x7 x8 x9 x10 x11 x12 x13 x14 x15 : Value) (w : World) : (method 247 88 (.agg #[x0, x1, x2, x3, x4, x5, x6, x7, x8, x9, x10, x11, x12, x13, x14, x15]) "rookery/types.on").run Try.prog w = .ok (68, .agg #[]) w := by kernel_rfl
theorem me_text1 (x0 x1 x2 x3 x4 x5 x6 x7 x8 x9 x10 x11 x12 x13 x14 x15 : Value) (w : World) : (method 247 88 (.agg #[x0, x1, x2, x3, x4, x5, x6, x7, x8, x9, x10, x11, x12, x13, x14, x15]) "rookery/types.text").run Try.prog w = .ok (72, .agg #[]) w := by kernel_rfl
theorem me_add2 (x0 x1 x2 x3 x4 x5 x6 x7 x8 : Value) (w : World) : (method 247 91 (.agg #[x0, x1, x2, x3, x4, x5, x6, x7, x8]) "rookery/types.add").run Try.prog w = .ok (66, .agg #[]) w := by kernel_rfl
theorem me_put2 (cs : Array Value) (w : World) : (method 247 91 (.agg cs) "rookery/types.put").run Try.prog w = .ok (88, .agg cs) w := by kernel_rfl
theorem me_turn2 (x0 x1 x2 x3 x4 x5 x6 x7 x8 : Value) (w : World) : (method 247 91 (.agg #[x0, x1, x2, x3, x4, x5, x6, x7, x8]) "rookery/types.turn").run Try.prog w = .ok (73, .agg #[]) w := by kernel_rfl
theorem me_write2 (x0 x1 x2 x3 x4 x5 x6 x7 x8 : Value) (w : World) : (method 247 91 (.agg #[x0, x1, x2, x3, x4, x5, x6, x7, x8]) "rookery/types.write").run Try.prog w = .ok (74, .agg #[]) w := by kernel_rfl
theorem me_take2 (cs : Array Value) (w : World) : (method 247 91 (.agg cs) "rookery/types.take").run Try.prog w = .ok (91, .agg cs) w := by kernel_rfl
theorem me_sum2 (x0 x1 x2 x3 x4 x5 x6 x7 x8 : Value) (w : World) : (method 247 91 (.agg #[x0, x1, x2, x3, x4, x5, x6, x7, x8]) "rookery/types.sum").run Try.prog w = .ok (70, .agg #[]) w := by kernel_rfl
theorem me_elements2 (cs : Array Value) (w : World) : (method 247 91 (.agg cs) "rookery/types.elements").run Try.prog w = .ok (86, .agg cs) w := by kernel_rfl
theorem me_on2 (x0 x1 x2 x3 x4 x5 x6 x7 x8 : Value) (w : World) : (method 247 91 (.agg #[x0, x1, x2, x3, x4, x5, x6, x7, x8]) "rookery/types.on").run Try.prog w = .ok (68, .agg #[]) w := by kernel_rfl
theorem me_text2 (x0 x1 x2 x3 x4 x5 x6 x7 x8 : Value) (w : World) : (method 247 91 (.agg #[x0, x1, x2, x3, x4, x5, x6, x7, x8]) "rookery/types.text").run Try.prog w = .ok (72, .agg #[]) w := by kernel_rfl
theorem me_add3 (x0 x1 x2 x3 x4 x5 x6 x7 x8 x9 x10 x11 x12 x13 x14 x15 : Value) (w : World) : (method 247 93 (.agg #[x0, x1, x2, x3, x4, x5, x6, x7, x8, x9, x10, x11, x12, x13, x14, x15]) "rookery/types.add").run Try.prog w = .ok (66, .agg #[]) w := by kernel_rfl
theorem me_put3 (x0 x1 x2 x3 x4 x5 x6 x7 x8 x9 x10 x11 x12 x13 x14 x15 : Value) (w : World) : (method 247 93 (.agg #[x0, x1, x2, x3, x4, x5, x6, x7, x8, x9, x10, x11, x12, x13, x14, x15]) "rookery/types.put").run Try.prog w = .ok (69, .agg #[]) w := by kernel_rfl
theorem me_turn3 (cs : Array Value) (w : World) : (method 247 93 (.agg cs) "rookery/types.turn").run Try.prog w = .ok (106, .agg cs) w := by kernel_rfl
theorem me_write3 (x0 x1 x2 x3 x4 x5 x6 x7 x8 x9 x10 x11 x12 x13 x14 x15 : Value) (w : World) : (method 247 93 (.agg #[x0, x1, x2, x3, x4, x5, x6, x7, x8, x9, x10, x11, x12, x13, x14, x15]) "rookery/types.write").run Try.prog w = .ok (74, .agg #[]) w := by kernel_rfl
theorem me_take3 (x0 x1 x2 x3 x4 x5 x6 x7 x8 x9 x10 x11 x12 x13 x14 x15 : Value) (w : World) : (method 247 93 (.agg #[x0, x1, x2, x3, x4, x5, x6, x7, x8, x9, x10, x11, x12, x13, x14, x15]) "rookery/types.take").run Try.prog w = .ok (71, .agg #[]) w := by kernel_rfl
theorem me_sum3 (x0 x1 x2 x3 x4 x5 x6 x7 x8 x9 x10 x11 x12 x13 x14 x15 : Value) (w : World) : (method 247 93 (.agg #[x0, x1, x2, x3, x4, x5, x6, x7, x8, x9, x10, x11, x12, x13, x14, x15]) "rookery/types.sum").run Try.prog w = .ok (70, .agg #[]) w := by kernel_rfl
theorem me_elements3 (x0 x1 x2 x3 x4 x5 x6 x7 x8 x9 x10 x11 x12 x13 x14 x15 : Value) (w : World) : (method 247 93 (.agg #[x0, x1, x2, x3, x4, x5, x6, x7, x8, x9, x10, x11, x12, x13, x14, x15]) "rookery/types.elements").run Try.prog w = .ok (67, .agg #[]) w := by kernel_rfl
theorem me_on3 (cs : Array Value) (w : World) : (method 247 93 (.agg cs) "rookery/types.on").run Try.prog w = .ok (103, .agg cs) w := by kernel_rfl
theorem me_text3 (x0 x1 x2 x3 x4 x5 x6 x7 x8 x9 x10 x11 x12 x13 x14 x15 : Value) (w : World) : (method 247 93 (.agg #[x0, x1, x2, x3, x4, x5, x6, x7, x8, x9, x10, x11, x12, x13, x14, x15]) "rookery/types.text").run Try.prog w = .ok (72, .agg #[]) w := by kernel_rfl
theorem me_add4 (x0 x1 x2 : Value) (w : World) : (method 247 95 (.agg #[x0, x1, x2]) "rookery/types.add").run Try.prog w = .ok (66, .agg #[]) w := by kernel_rfl
theorem me_put4 (x0 x1 x2 : Value) (w : World) : (method 247 95 (.agg #[x0, x1, x2]) "rookery/types.put").run Try.prog w = .ok (69, .agg #[]) w := by kernel_rfl
theorem me_turn4 (x0 x1 x2 : Value) (w : World) : (method 247 95 (.agg #[x0, x1, x2]) "rookery/types.turn").run Try.prog w = .ok (73, .agg #[]) w := by kernel_rfl
theorem me_write4 (cs : Array Value) (w : World) : (method 247 95 (.agg cs) "rookery/types.write").run Try.prog w = .ok (111, .agg cs) w := by kernel_rfl
theorem me_take4 (x0 x1 x2 : Value) (w : World) : (method 247 95 (.agg #[x0, x1, x2]) "rookery/types.take").run Try.prog w = .ok (71, .agg #[]) w := by kernel_rfl
theorem me_sum4 (x0 x1 x2 : Value) (w : World) : (method 247 95 (.agg #[x0, x1, x2]) "rookery/types.sum").run Try.prog w = .ok (70, .agg #[]) w := by kernel_rfl
theorem me_elements4 (x0 x1 x2 : Value) (w : World) : (method 247 95 (.agg #[x0, x1, x2]) "rookery/types.elements").run Try.prog w = .ok (67, .agg #[]) w := by kernel_rfl
theorem me_on4 (x0 x1 x2 : Value) (w : World) : (method 247 95 (.agg #[x0, x1, x2]) "rookery/types.on").run Try.prog w = .ok (68, .agg #[]) w := by kernel_rfl
theorem me_text4 (cs : Array Value) (w : World) : (method 247 95 (.agg cs) "rookery/types.text").run Try.prog w = .ok (110, .agg cs) w := by kernel_rfl
theorem arr3 {cs : Array Value} (h : cs.size = 3) : ∃ x0 x1 x2, cs = #[x0, x1, x2] := by
  obtain ⟨l⟩ := cs
  match l, h with
  | [x0, x1, x2], _ => exact ⟨x0, x1, x2, rfl⟩
theorem arr9 {cs : Array Value} (h : cs.size = 9) : ∃ x0 x1 x2 x3 x4 x5 x6 x7 x8, cs = #[x0, x1, x2, x3, x4, x5, x6, x7, x8] := by
  obtain ⟨l⟩ := cs
  match l, h with
  | [x0, x1, x2, x3, x4, x5, x6, x7, x8], _ => exact ⟨x0, x1, x2, x3, x4, x5, x6, x7, x8, rfl⟩
theorem arr16 {cs : Array Value} (h : cs.size = 16) : ∃ x0 x1 x2 x3 x4 x5 x6 x7 x8 x9 x10 x11 x12 x13 x14 x15, cs = #[x0, x1, x2, x3, x4, x5, x6, x7, x8, x9, x10, x11, x12, x13, x14, x15] := by
  obtain ⟨l⟩ := cs
  match l, h with
  | [x0, x1, x2, x3, x4, x5, x6, x7, x8, x9, x10, x11, x12, x13, x14, x15], _ => exact ⟨x0, x1, x2, x3, x4, x5, x6, x7, x8, x9, x10, x11, x12, x13, x14, x15, rfl⟩
theorem mf_put1 {cs : Array Value} (h : cs.size = 16) (w : World) : (method 247 88 (.agg cs) "rookery/types.put").run Try.prog w = .ok (69, .agg #[]) w := by
  obtain ⟨x0, x1, x2, x3, x4, x5, x6, x7, x8, x9, x10, x11, x12, x13, x14, x15, rfl⟩ := arr16 h
  exact me_put1 _ _ _ _ _ _ _ _ _ _ _ _ _ _ _ _ w
theorem mf_turn1 {cs : Array Value} (h : cs.size = 16) (w : World) : (method 247 88 (.agg cs) "rookery/types.turn").run Try.prog w = .ok (73, .agg #[]) w := by
  obtain ⟨x0, x1, x2, x3, x4, x5, x6, x7, x8, x9, x10, x11, x12, x13, x14, x15, rfl⟩ := arr16 h
  exact me_turn1 _ _ _ _ _ _ _ _ _ _ _ _ _ _ _ _ w
theorem mf_write1 {cs : Array Value} (h : cs.size = 16) (w : World) : (method 247 88 (.agg cs) "rookery/types.write").run Try.prog w = .ok (74, .agg #[]) w := by
  obtain ⟨x0, x1, x2, x3, x4, x5, x6, x7, x8, x9, x10, x11, x12, x13, x14, x15, rfl⟩ := arr16 h
  exact me_write1 _ _ _ _ _ _ _ _ _ _ _ _ _ _ _ _ w
theorem mf_take1 {cs : Array Value} (h : cs.size = 16) (w : World) : (method 247 88 (.agg cs) "rookery/types.take").run Try.prog w = .ok (71, .agg #[]) w := by
  obtain ⟨x0, x1, x2, x3, x4, x5, x6, x7, x8, x9, x10, x11, x12, x13, x14, x15, rfl⟩ := arr16 h
  exact me_take1 _ _ _ _ _ _ _ _ _ _ _ _ _ _ _ _ w
theorem mf_elements1 {cs : Array Value} (h : cs.size = 16) (w : World) : (method 247 88 (.agg cs) "rookery/types.elements").run Try.prog w = .ok (67, .agg #[]) w := by
  obtain ⟨x0, x1, x2, x3, x4, x5, x6, x7, x8, x9, x10, x11, x12, x13, x14, x15, rfl⟩ := arr16 h
  exact me_elements1 _ _ _ _ _ _ _ _ _ _ _ _ _ _ _ _ w
theorem mf_on1 {cs : Array Value} (h : cs.size = 16) (w : World) : (method 247 88 (.agg cs) "rookery/types.on").run Try.prog w = .ok (68, .agg #[]) w := by
  obtain ⟨x0, x1, x2, x3, x4, x5, x6, x7, x8, x9, x10, x11, x12, x13, x14, x15, rfl⟩ := arr16 h
  exact me_on1 _ _ _ _ _ _ _ _ _ _ _ _ _ _ _ _ w
theorem mf_text1 {cs : Array Value} (h : cs.size = 16) (w : World) : (method 247 88 (.agg cs) "rookery/types.text").run Try.prog w = .ok (72, .agg #[]) w := by
  obtain ⟨x0, x1, x2, x3, x4, x5, x6, x7, x8, x9, x10, x11, x12, x13, x14, x15, rfl⟩ := arr16 h
  exact me_text1 _ _ _ _ _ _ _ _ _ _ _ _ _ _ _ _ w
theorem mf_add2 {cs : Array Value} (h : cs.size = 9) (w : World) : (method 247 91 (.agg cs) "rookery/types.add").run Try.prog w = .ok (66, .agg #[]) w := by
  obtain ⟨x0, x1, x2, x3, x4, x5, x6, x7, x8, rfl⟩ := arr9 h
  exact me_add2 _ _ _ _ _ _ _ _ _ w
theorem mf_turn2 {cs : Array Value} (h : cs.size = 9) (w : World) : (method 247 91 (.agg cs) "rookery/types.turn").run Try.prog w = .ok (73, .agg #[]) w := by
  obtain ⟨x0, x1, x2, x3, x4, x5, x6, x7, x8, rfl⟩ := arr9 h
  exact me_turn2 _ _ _ _ _ _ _ _ _ w
theorem mf_write2 {cs : Array Value} (h : cs.size = 9) (w : World) : (method 247 91 (.agg cs) "rookery/types.write").run Try.prog w = .ok (74, .agg #[]) w := by
  obtain ⟨x0, x1, x2, x3, x4, x5, x6, x7, x8, rfl⟩ := arr9 h
  exact me_write2 _ _ _ _ _ _ _ _ _ w
theorem mf_sum2 {cs : Array Value} (h : cs.size = 9) (w : World) : (method 247 91 (.agg cs) "rookery/types.sum").run Try.prog w = .ok (70, .agg #[]) w := by
  obtain ⟨x0, x1, x2, x3, x4, x5, x6, x7, x8, rfl⟩ := arr9 h
  exact me_sum2 _ _ _ _ _ _ _ _ _ w
theorem mf_on2 {cs : Array Value} (h : cs.size = 9) (w : World) : (method 247 91 (.agg cs) "rookery/types.on").run Try.prog w = .ok (68, .agg #[]) w := by
  obtain ⟨x0, x1, x2, x3, x4, x5, x6, x7, x8, rfl⟩ := arr9 h
  exact me_on2 _ _ _ _ _ _ _ _ _ w
theorem mf_text2 {cs : Array Value} (h : cs.size = 9) (w : World) : (method 247 91 (.agg cs) "rookery/types.text").run Try.prog w = .ok (72, .agg #[]) w := by
  obtain ⟨x0, x1, x2, x3, x4, x5, x6, x7, x8, rfl⟩ := arr9 h
  exact me_text2 _ _ _ _ _ _ _ _ _ w
theorem mf_add3 {cs : Array Value} (h : cs.size = 16) (w : World) : (method 247 93 (.agg cs) "rookery/types.add").run Try.prog w = .ok (66, .agg #[]) w := by
  obtain ⟨x0, x1, x2, x3, x4, x5, x6, x7, x8, x9, x10, x11, x12, x13, x14, x15, rfl⟩ := arr16 h
  exact me_add3 _ _ _ _ _ _ _ _ _ _ _ _ _ _ _ _ w
theorem mf_put3 {cs : Array Value} (h : cs.size = 16) (w : World) : (method 247 93 (.agg cs) "rookery/types.put").run Try.prog w = .ok (69, .agg #[]) w := by
  obtain ⟨x0, x1, x2, x3, x4, x5, x6, x7, x8, x9, x10, x11, x12, x13, x14, x15, rfl⟩ := arr16 h
  exact me_put3 _ _ _ _ _ _ _ _ _ _ _ _ _ _ _ _ w
theorem mf_write3 {cs : Array Value} (h : cs.size = 16) (w : World) : (method 247 93 (.agg cs) "rookery/types.write").run Try.prog w = .ok (74, .agg #[]) w := by
  obtain ⟨x0, x1, x2, x3, x4, x5, x6, x7, x8, x9, x10, x11, x12, x13, x14, x15, rfl⟩ := arr16 h
  exact me_write3 _ _ _ _ _ _ _ _ _ _ _ _ _ _ _ _ w
theorem mf_take3 {cs : Array Value} (h : cs.size = 16) (w : World) : (method 247 93 (.agg cs) "rookery/types.take").run Try.prog w = .ok (71, .agg #[]) w := by
  obtain ⟨x0, x1, x2, x3, x4, x5, x6, x7, x8, x9, x10, x11, x12, x13, x14, x15, rfl⟩ := arr16 h
  exact me_take3 _ _ _ _ _ _ _ _ _ _ _ _ _ _ _ _ w
theorem mf_sum3 {cs : Array Value} (h : cs.size = 16) (w : World) : (method 247 93 (.agg cs) "rookery/types.sum").run Try.prog w = .ok (70, .agg #[]) w := by
  obtain ⟨x0, x1, x2, x3, x4, x5, x6, x7, x8, x9, x10, x11, x12, x13, x14, x15, rfl⟩ := arr16 h
  exact me_sum3 _ _ _ _ _ _ _ _ _ _ _ _ _ _ _ _ w
theorem mf_elements3 {cs : Array Value} (h : cs.size = 16) (w : World) : (method 247 93 (.agg cs) "rookery/types.elements").run Try.prog w = .ok (67, .agg #[]) w := by
  obtain ⟨x0, x1, x2, x3, x4, x5, x6, x7, x8, x9, x10, x11, x12, x13, x14, x15, rfl⟩ := arr16 h
  exact me_elements3 _ _ _ _ _ _ _ _ _ _ _ _ _ _ _ _ w
theorem mf_text3 {cs : Array Value} (h : cs.size = 16) (w : World) : (method 247 93 (.agg cs) "rookery/types.text").run Try.prog w = .ok (72, .agg #[]) w := by
  obtain ⟨x0, x1, x2, x3, x4, x5, x6, x7, x8, x9, x10, x11, x12, x13, x14, x15, rfl⟩ := arr16 h
  exact me_text3 _ _ _ _ _ _ _ _ _ _ _ _ _ _ _ _ w
theorem mf_add4 {cs : Array Value} (h : cs.size = 3) (w : World) : (method 247 95 (.agg cs) "rookery/types.add").run Try.prog w = .ok (66, .agg #[]) w := by
  obtain ⟨x0, x1, x2, rfl⟩ := arr3 h
  exact me_add4 _ _ _ w
theorem mf_put4 {cs : Array Value} (h : cs.size = 3) (w : World) : (method 247 95 (.agg cs) "rookery/types.put").run Try.prog w = .ok (69, .agg #[]) w := by
  obtain ⟨x0, x1, x2, rfl⟩ := arr3 h
  exact me_put4 _ _ _ w
theorem mf_turn4 {cs : Array Value} (h : cs.size = 3) (w : World) : (method 247 95 (.agg cs) "rookery/types.turn").run Try.prog w = .ok (73, .agg #[]) w := by
  obtain ⟨x0, x1, x2, rfl⟩ := arr3 h
  exact me_turn4 _ _ _ w
theorem mf_take4 {cs : Array Value} (h : cs.size = 3) (w : World) : (method 247 95 (.agg cs) "rookery/types.take").run Try.prog w = .ok (71, .agg #[]) w := by
  obtain ⟨x0, x1, x2, rfl⟩ := arr3 h
  exact me_take4 _ _ _ w
theorem mf_sum4 {cs : Array Value} (h : cs.size = 3) (w : World) : (method 247 95 (.agg cs) "rookery/types.sum").run Try.prog w = .ok (70, .agg #[]) w := by
  obtain ⟨x0, x1, x2, rfl⟩ := arr3 h
  exact me_sum4 _ _ _ w
theorem mf_elements4 {cs : Array Value} (h : cs.size = 3) (w : World) : (method 247 95 (.agg cs) "rookery/types.elements").run Try.prog w = .ok (67, .agg #[]) w := by
  obtain ⟨x0, x1, x2, rfl⟩ := arr3 h
  exact me_elements4 _ _ _ w
theorem mf_on4 {cs : Array Value} (h : cs.size = 3) (w : World) : (method 247 95 (.agg cs) "rookery/types.on").run Try.prog w = .ok (68, .agg #[]) w := by
  obtain ⟨x0, x1, x2, rfl⟩ := arr3 h
  exact me_on4 _ _ _ w
set_option maxRecDepth 100000 in
theorem Add1_no {w : World} {V : Nat} {cs : Array Value} (a b : Value) {e : Int} (he : e ≠ 0) (hV : Bd w V (.iface 88 (.agg cs))) (hc : Calls Try.prog 76 #[.agg cs, a, b] w fun r w' => r = .returned (.tuple #[.nilIface, .int .i64 e]) ∧ Apart [] w w') : Calls Try.prog 15 #[.pointer (some ⟨V, 0, none⟩), a, b] w fun r w' => r = .returned (.int .i64 e) ∧ Apart [] w w' := by
  have z : w.cell? ⟨V, 0, none⟩ = some (.iface 88 (.agg cs)) := by rw [cell_of_row _ _ _ _ _ _ hV]; rfl
  have HV := hid hV
  clear hV
  have hm := fun wx => me_add1 cs wx
  have HC := hid hc
  clear hc
  go_enter Try.func15, Try.ntmps15
  go_wp2_with (go_at_call 76; refine HC.out.mono ?_; rintro _ w1 ⟨rfl, a1⟩; have HA1 := hid a1; clear a1)
  go_wp2_with (go_at_call 31; refine (become_no _ e he).mono ?_; rintro _ _ ⟨rfl, rfl⟩)
  go_wp2_with fail
  go_ret
  exact ⟨rfl, HA1.out⟩
set_option maxRecDepth 100000 in
theorem Add1_ok {w : World} {V : Nat} {cs : Array Value} (a b : Value) {d : Value} (hV : Bd w V (.iface 88 (.agg cs))) (hc : Calls Try.prog 76 #[.agg cs, a, b] w fun r w' => r = .returned (.tuple #[.iface 88 d, .int .i64 0]) ∧ Apart [] w w') : Calls Try.prog 15 #[.pointer (some ⟨V, 0, none⟩), a, b] w fun r w' => r = .returned (.int .i64 0) ∧ Bd w' V (.iface 88 d) ∧ Apart [V] w w' := by
  have z : w.cell? ⟨V, 0, none⟩ = some (.iface 88 (.agg cs)) := by rw [cell_of_row _ _ _ _ _ _ hV]; rfl
  have HV := hid hV
  clear hV
  have hm := fun wx => me_add1 cs wx
  have HC := hid hc
  clear hc
  go_enter Try.func15, Try.ntmps15
  go_wp2_with (go_at_call 76; refine HC.out.mono ?_; rintro _ w1 ⟨rfl, a1⟩; have HA1 := hid a1; clear a1)
  go_wp2_with (go_at_call 31; refine (become_ok (b0 := .iface 88 (.agg cs)) (keep0 HA1.out HV.out) 88 d).mono ?_; rintro _ w2 ⟨rfl, b2, a2⟩; have HA2 := hid (And.intro b2 a2); clear b2 a2)
  go_wp2_with fail
  go_ret
  exact ⟨rfl, HA2.out.1, (HA1.out.mono (by simp)).trans HA2.out.2⟩
set_option maxRecDepth 100000 in
theorem Put1_no {w : World} {V : Nat} {cs : Array Value} (a b : Value) {e : Int} (he : e ≠ 0) (hV : Bd w V (.iface 88 (.agg cs))) (hn : cs.size = 16) (hc : Calls Try.prog 69 #[.agg #[], a, b] w fun r w' => r = .returned (.tuple #[.nilIface, .int .i64 e]) ∧ Apart [] w w') : Calls Try.prog 17 #[.pointer (some ⟨V, 0, none⟩), a, b] w fun r w' => r = .returned (.int .i64 e) ∧ Apart [] w w' := by
  have z : w.cell? ⟨V, 0, none⟩ = some (.iface 88 (.agg cs)) := by rw [cell_of_row _ _ _ _ _ _ hV]; rfl
  have HV := hid hV
  clear hV
  have hm := fun wx => mf_put1 hn wx
  have HC := hid hc
  clear hc hn
  go_enter Try.func17, Try.ntmps17
  go_wp2_with (go_at_call 69; refine HC.out.mono ?_; rintro _ w1 ⟨rfl, a1⟩; have HA1 := hid a1; clear a1)
  go_wp2_with (go_at_call 31; refine (become_no _ e he).mono ?_; rintro _ _ ⟨rfl, rfl⟩)
  go_wp2_with fail
  go_ret
  exact ⟨rfl, HA1.out⟩
set_option maxRecDepth 100000 in
theorem Switch1_no {w : World} {V : Nat} {cs : Array Value} (a b : Value) {e : Int} (he : e ≠ 0) (hV : Bd w V (.iface 88 (.agg cs))) (hn : cs.size = 16) (hc : Calls Try.prog 73 #[.agg #[], a, b] w fun r w' => r = .returned (.tuple #[.nilIface, .int .i64 e]) ∧ Apart [] w w') : Calls Try.prog 18 #[.pointer (some ⟨V, 0, none⟩), a, b] w fun r w' => r = .returned (.int .i64 e) ∧ Apart [] w w' := by
  have z : w.cell? ⟨V, 0, none⟩ = some (.iface 88 (.agg cs)) := by rw [cell_of_row _ _ _ _ _ _ hV]; rfl
  have HV := hid hV
  clear hV
  have hm := fun wx => mf_turn1 hn wx
  have HC := hid hc
  clear hc hn
  go_enter Try.func18, Try.ntmps18
  go_wp2_with (go_at_call 73; refine HC.out.mono ?_; rintro _ w1 ⟨rfl, a1⟩; have HA1 := hid a1; clear a1)
  go_wp2_with (go_at_call 31; refine (become_no _ e he).mono ?_; rintro _ _ ⟨rfl, rfl⟩)
  go_wp2_with fail
  go_ret
  exact ⟨rfl, HA1.out⟩
set_option maxRecDepth 100000 in
theorem Write1_no {w : World} {V : Nat} {cs : Array Value} (a b : Value) {e : Int} (he : e ≠ 0) (hV : Bd w V (.iface 88 (.agg cs))) (hn : cs.size = 16) (hc : Calls Try.prog 74 #[.agg #[], a, b] w fun r w' => r = .returned (.tuple #[.nilIface, .int .i64 e]) ∧ Apart [] w w') : Calls Try.prog 19 #[.pointer (some ⟨V, 0, none⟩), a, b] w fun r w' => r = .returned (.int .i64 e) ∧ Apart [] w w' := by
  have z : w.cell? ⟨V, 0, none⟩ = some (.iface 88 (.agg cs)) := by rw [cell_of_row _ _ _ _ _ _ hV]; rfl
  have HV := hid hV
  clear hV
  have hm := fun wx => mf_write1 hn wx
  have HC := hid hc
  clear hc hn
  go_enter Try.func19, Try.ntmps19
  go_wp2_with (go_at_call 74; refine HC.out.mono ?_; rintro _ w1 ⟨rfl, a1⟩; have HA1 := hid a1; clear a1)
  go_wp2_with (go_at_call 31; refine (become_no _ e he).mono ?_; rintro _ _ ⟨rfl, rfl⟩)
  go_wp2_with fail
  go_ret
  exact ⟨rfl, HA1.out⟩
set_option maxRecDepth 100000 in
theorem Take1_no {w : World} {V : Nat} {cs : Array Value} (a : Value) {e : Int} (he : e ≠ 0) (hV : Bd w V (.iface 88 (.agg cs))) (hn : cs.size = 16) (hc : Calls Try.prog 71 #[.agg #[], a] w fun r w' => r = .returned (.tuple #[.nilIface, .int .i64 e]) ∧ Apart [] w w') : Calls Try.prog 20 #[.pointer (some ⟨V, 0, none⟩), a] w fun r w' => r = .returned (.int .i64 e) ∧ Apart [] w w' := by
  have z : w.cell? ⟨V, 0, none⟩ = some (.iface 88 (.agg cs)) := by rw [cell_of_row _ _ _ _ _ _ hV]; rfl
  have HV := hid hV
  clear hV
  have hm := fun wx => mf_take1 hn wx
  have HC := hid hc
  clear hc hn
  go_enter Try.func20, Try.ntmps20
  go_wp2_with (go_at_call 71; refine HC.out.mono ?_; rintro _ w1 ⟨rfl, a1⟩; have HA1 := hid a1; clear a1)
  go_wp2_with (go_at_call 31; refine (become_no _ e he).mono ?_; rintro _ _ ⟨rfl, rfl⟩)
  go_wp2_with fail
  go_ret
  exact ⟨rfl, HA1.out⟩
set_option maxRecDepth 100000 in
theorem Sum1 {w : World} {V : Nat} {cs : Array Value} {x : Value} (hV : Bd w V (.iface 88 (.agg cs))) (hc : Calls Try.prog 80 #[.agg cs] w fun r w' => r = .returned x ∧ Apart [] w w') : Calls Try.prog 21 #[.pointer (some ⟨V, 0, none⟩)] w fun r w' => r = .returned x ∧ Apart [] w w' := by
  have z : w.cell? ⟨V, 0, none⟩ = some (.iface 88 (.agg cs)) := by rw [cell_of_row _ _ _ _ _ _ hV]; rfl
  have HV := hid hV
  clear hV
  have hm := fun wx => me_sum1 cs wx
  have HC := hid hc
  clear hc
  go_enter Try.func21, Try.ntmps21
  go_wp2_with (go_at_call 80; refine HC.out.mono ?_; rintro _ w1 ⟨rfl, a1⟩; have HA1 := hid a1; clear a1)
  go_wp2_with fail
  go_ret
  exact ⟨rfl, HA1.out⟩
set_option maxRecDepth 100000 in
theorem Elements1 {w : World} {V : Nat} {cs : Array Value} {x : Value} (hV : Bd w V (.iface 88 (.agg cs))) (hn : cs.size = 16) (hc : Calls Try.prog 67 #[.agg #[]] w fun r w' => r = .returned x ∧ Apart [] w w') : Calls Try.prog 22 #[.pointer (some ⟨V, 0, none⟩)] w fun r w' => r = .returned x ∧ Apart [] w w' := by
  have z : w.cell? ⟨V, 0, none⟩ = some (.iface 88 (.agg cs)) := by rw [cell_of_row _ _ _ _ _ _ hV]; rfl
  have HV := hid hV
  clear hV
  have hm := fun wx => mf_elements1 hn wx
  have HC := hid hc
  clear hc hn
  go_enter Try.func22, Try.ntmps22
  go_wp2_with (go_at_call 67; refine HC.out.mono ?_; rintro _ w1 ⟨rfl, a1⟩; have HA1 := hid a1; clear a1)
  go_wp2_with fail
  go_ret
  exact ⟨rfl, HA1.out⟩
set_option maxRecDepth 100000 in
theorem On1 {w : World} {V : Nat} {cs : Array Value} {x : Value} (hV : Bd w V (.iface 88 (.agg cs))) (hn : cs.size = 16) (hc : Calls Try.prog 68 #[.agg #[]] w fun r w' => r = .returned x ∧ Apart [] w w') : Calls Try.prog 23 #[.pointer (some ⟨V, 0, none⟩)] w fun r w' => r = .returned x ∧ Apart [] w w' := by
  have z : w.cell? ⟨V, 0, none⟩ = some (.iface 88 (.agg cs)) := by rw [cell_of_row _ _ _ _ _ _ hV]; rfl
  have HV := hid hV
  clear hV
  have hm := fun wx => mf_on1 hn wx
  have HC := hid hc
  clear hc hn
  go_enter Try.func23, Try.ntmps23
  go_wp2_with (go_at_call 68; refine HC.out.mono ?_; rintro _ w1 ⟨rfl, a1⟩; have HA1 := hid a1; clear a1)
  go_wp2_with fail
  go_ret
  exact ⟨rfl, HA1.out⟩
set_option maxRecDepth 100000 in
theorem Text1 {w : World} {V : Nat} {cs : Array Value} {x : Value} (hV : Bd w V (.iface 88 (.agg cs))) (hn : cs.size = 16) (hc : Calls Try.prog 72 #[.agg #[]] w fun r w' => r = .returned x ∧ Apart [] w w') : Calls Try.prog 24 #[.pointer (some ⟨V, 0, none⟩)] w fun r w' => r = .returned x ∧ Apart [] w w' := by
  have z : w.cell? ⟨V, 0, none⟩ = some (.iface 88 (.agg cs)) := by rw [cell_of_row _ _ _ _ _ _ hV]; rfl
  have HV := hid hV
  clear hV
  have hm := fun wx => mf_text1 hn wx
  have HC := hid hc
  clear hc hn
  go_enter Try.func24, Try.ntmps24
  go_wp2_with (go_at_call 72; refine HC.out.mono ?_; rintro _ w1 ⟨rfl, a1⟩; have HA1 := hid a1; clear a1)
  go_wp2_with fail
  go_ret
  exact ⟨rfl, HA1.out⟩
set_option maxRecDepth 100000 in
theorem Add2_no {w : World} {V : Nat} {cs : Array Value} (a b : Value) {e : Int} (he : e ≠ 0) (hV : Bd w V (.iface 91 (.agg cs))) (hn : cs.size = 9) (hc : Calls Try.prog 66 #[.agg #[], a, b] w fun r w' => r = .returned (.tuple #[.nilIface, .int .i64 e]) ∧ Apart [] w w') : Calls Try.prog 15 #[.pointer (some ⟨V, 0, none⟩), a, b] w fun r w' => r = .returned (.int .i64 e) ∧ Apart [] w w' := by
  have z : w.cell? ⟨V, 0, none⟩ = some (.iface 91 (.agg cs)) := by rw [cell_of_row _ _ _ _ _ _ hV]; rfl
  have HV := hid hV
  clear hV
  have hm := fun wx => mf_add2 hn wx
  have HC := hid hc
  clear hc hn
  go_enter Try.func15, Try.ntmps15
  go_wp2_with (go_at_call 66; refine HC.out.mono ?_; rintro _ w1 ⟨rfl, a1⟩; have HA1 := hid a1; clear a1)
  go_wp2_with (go_at_call 31; refine (become_no _ e he).mono ?_; rintro _ _ ⟨rfl, rfl⟩)
  go_wp2_with fail
  go_ret
  exact ⟨rfl, HA1.out⟩
set_option maxRecDepth 100000 in
theorem Put2_no {w : World} {V : Nat} {cs : Array Value} (a b : Value) {e : Int} (he : e ≠ 0) (hV : Bd w V (.iface 91 (.agg cs))) (hc : Calls Try.prog 88 #[.agg cs, a, b] w fun r w' => r = .returned (.tuple #[.nilIface, .int .i64 e]) ∧ Apart [] w w') : Calls Try.prog 17 #[.pointer (some ⟨V, 0, none⟩), a, b] w fun r w' => r = .returned (.int .i64 e) ∧ Apart [] w w' := by
  have z : w.cell? ⟨V, 0, none⟩ = some (.iface 91 (.agg cs)) := by rw [cell_of_row _ _ _ _ _ _ hV]; rfl
  have HV := hid hV
  clear hV
  have hm := fun wx => me_put2 cs wx
  have HC := hid hc
  clear hc
  go_enter Try.func17, Try.ntmps17
  go_wp2_with (go_at_call 88; refine HC.out.mono ?_; rintro _ w1 ⟨rfl, a1⟩; have HA1 := hid a1; clear a1)
  go_wp2_with (go_at_call 31; refine (become_no _ e he).mono ?_; rintro _ _ ⟨rfl, rfl⟩)
  go_wp2_with fail
  go_ret
  exact ⟨rfl, HA1.out⟩
set_option maxRecDepth 100000 in
theorem Put2_ok {w : World} {V : Nat} {cs : Array Value} (a b : Value) {d : Value} (hV : Bd w V (.iface 91 (.agg cs))) (hc : Calls Try.prog 88 #[.agg cs, a, b] w fun r w' => r = .returned (.tuple #[.iface 91 d, .int .i64 0]) ∧ Apart [] w w') : Calls Try.prog 17 #[.pointer (some ⟨V, 0, none⟩), a, b] w fun r w' => r = .returned (.int .i64 0) ∧ Bd w' V (.iface 91 d) ∧ Apart [V] w w' := by
  have z : w.cell? ⟨V, 0, none⟩ = some (.iface 91 (.agg cs)) := by rw [cell_of_row _ _ _ _ _ _ hV]; rfl
  have HV := hid hV
  clear hV
  have hm := fun wx => me_put2 cs wx
  have HC := hid hc
  clear hc
  go_enter Try.func17, Try.ntmps17
  go_wp2_with (go_at_call 88; refine HC.out.mono ?_; rintro _ w1 ⟨rfl, a1⟩; have HA1 := hid a1; clear a1)
  go_wp2_with (go_at_call 31; refine (become_ok (b0 := .iface 91 (.agg cs)) (keep0 HA1.out HV.out) 91 d).mono ?_; rintro _ w2 ⟨rfl, b2, a2⟩; have HA2 := hid (And.intro b2 a2); clear b2 a2)
  go_wp2_with fail
  go_ret
  exact ⟨rfl, HA2.out.1, (HA1.out.mono (by simp)).trans HA2.out.2⟩
set_option maxRecDepth 100000 in
theorem Switch2_no {w : World} {V : Nat} {cs : Array Value} (a b : Value) {e : Int} (he : e ≠ 0) (hV : Bd w V (.iface 91 (.agg cs))) (hn : cs.size = 9) (hc : Calls Try.prog 73 #[.agg #[], a, b] w fun r w' => r = .returned (.tuple #[.nilIface, .int .i64 e]) ∧ Apart [] w w') : Calls Try.prog 18 #[.pointer (some ⟨V, 0, none⟩), a, b] w fun r w' => r = .returned (.int .i64 e) ∧ Apart [] w w' := by
  have z : w.cell? ⟨V, 0, none⟩ = some (.iface 91 (.agg cs)) := by rw [cell_of_row _ _ _ _ _ _ hV]; rfl
  have HV := hid hV
  clear hV
  have hm := fun wx => mf_turn2 hn wx
  have HC := hid hc
  clear hc hn
  go_enter Try.func18, Try.ntmps18
  go_wp2_with (go_at_call 73; refine HC.out.mono ?_; rintro _ w1 ⟨rfl, a1⟩; have HA1 := hid a1; clear a1)
  go_wp2_with (go_at_call 31; refine (become_no _ e he).mono ?_; rintro _ _ ⟨rfl, rfl⟩)
  go_wp2_with fail
  go_ret
  exact ⟨rfl, HA1.out⟩
set_option maxRecDepth 100000 in
theorem Write2_no {w : World} {V : Nat} {cs : Array Value} (a b : Value) {e : Int} (he : e ≠ 0) (hV : Bd w V (.iface 91 (.agg cs))) (hn : cs.size = 9) (hc : Calls Try.prog 74 #[.agg #[], a, b] w fun r w' => r = .returned (.tuple #[.nilIface, .int .i64 e]) ∧ Apart [] w w') : Calls Try.prog 19 #[.pointer (some ⟨V, 0, none⟩), a, b] w fun r w' => r = .returned (.int .i64 e) ∧ Apart [] w w' := by
  have z : w.cell? ⟨V, 0, none⟩ = some (.iface 91 (.agg cs)) := by rw [cell_of_row _ _ _ _ _ _ hV]; rfl
  have HV := hid hV
  clear hV
  have hm := fun wx => mf_write2 hn wx
  have HC := hid hc
  clear hc hn
  go_enter Try.func19, Try.ntmps19
  go_wp2_with (go_at_call 74; refine HC.out.mono ?_; rintro _ w1 ⟨rfl, a1⟩; have HA1 := hid a1; clear a1)
  go_wp2_with (go_at_call 31; refine (become_no _ e he).mono ?_; rintro _ _ ⟨rfl, rfl⟩)
  go_wp2_with fail
  go_ret
  exact ⟨rfl, HA1.out⟩
set_option maxRecDepth 100000 in
theorem Take2_no {w : World} {V : Nat} {cs : Array Value} (a : Value) {e : Int} (he : e ≠ 0) (hV : Bd w V (.iface 91 (.agg cs))) (hc : Calls Try.prog 91 #[.agg cs, a] w fun r w' => r = .returned (.tuple #[.nilIface, .int .i64 e]) ∧ Apart [] w w') : Calls Try.prog 20 #[.pointer (some ⟨V, 0, none⟩), a] w fun r w' => r = .returned (.int .i64 e) ∧ Apart [] w w' := by
  have z : w.cell? ⟨V, 0, none⟩ = some (.iface 91 (.agg cs)) := by rw [cell_of_row _ _ _ _ _ _ hV]; rfl
  have HV := hid hV
  clear hV
  have hm := fun wx => me_take2 cs wx
  have HC := hid hc
  clear hc
  go_enter Try.func20, Try.ntmps20
  go_wp2_with (go_at_call 91; refine HC.out.mono ?_; rintro _ w1 ⟨rfl, a1⟩; have HA1 := hid a1; clear a1)
  go_wp2_with (go_at_call 31; refine (become_no _ e he).mono ?_; rintro _ _ ⟨rfl, rfl⟩)
  go_wp2_with fail
  go_ret
  exact ⟨rfl, HA1.out⟩
set_option maxRecDepth 100000 in
theorem Take2_ok {w : World} {V : Nat} {cs : Array Value} (a : Value) {d : Value} (hV : Bd w V (.iface 91 (.agg cs))) (hc : Calls Try.prog 91 #[.agg cs, a] w fun r w' => r = .returned (.tuple #[.iface 91 d, .int .i64 0]) ∧ Apart [] w w') : Calls Try.prog 20 #[.pointer (some ⟨V, 0, none⟩), a] w fun r w' => r = .returned (.int .i64 0) ∧ Bd w' V (.iface 91 d) ∧ Apart [V] w w' := by
  have z : w.cell? ⟨V, 0, none⟩ = some (.iface 91 (.agg cs)) := by rw [cell_of_row _ _ _ _ _ _ hV]; rfl
  have HV := hid hV
  clear hV
  have hm := fun wx => me_take2 cs wx
  have HC := hid hc
  clear hc
  go_enter Try.func20, Try.ntmps20
  go_wp2_with (go_at_call 91; refine HC.out.mono ?_; rintro _ w1 ⟨rfl, a1⟩; have HA1 := hid a1; clear a1)
  go_wp2_with (go_at_call 31; refine (become_ok (b0 := .iface 91 (.agg cs)) (keep0 HA1.out HV.out) 91 d).mono ?_; rintro _ w2 ⟨rfl, b2, a2⟩; have HA2 := hid (And.intro b2 a2); clear b2 a2)
  go_wp2_with fail
  go_ret
  exact ⟨rfl, HA2.out.1, (HA1.out.mono (by simp)).trans HA2.out.2⟩
set_option maxRecDepth 100000 in
theorem Sum2 {w : World} {V : Nat} {cs : Array Value} {x : Value} (hV : Bd w V (.iface 91 (.agg cs))) (hn : cs.size = 9) (hc : Calls Try.prog 70 #[.agg #[]] w fun r w' => r = .returned x ∧ Apart [] w w') : Calls Try.prog 21 #[.pointer (some ⟨V, 0, none⟩)] w fun r w' => r = .returned x ∧ Apart [] w w' := by
  have z : w.cell? ⟨V, 0, none⟩ = some (.iface 91 (.agg cs)) := by rw [cell_of_row _ _ _ _ _ _ hV]; rfl
  have HV := hid hV
  clear hV
  have hm := fun wx => mf_sum2 hn wx
  have HC := hid hc
  clear hc hn
  go_enter Try.func21, Try.ntmps21
  go_wp2_with (go_at_call 70; refine HC.out.mono ?_; rintro _ w1 ⟨rfl, a1⟩; have HA1 := hid a1; clear a1)
  go_wp2_with fail
  go_ret
  exact ⟨rfl, HA1.out⟩
set_option maxRecDepth 100000 in
theorem Elements2 {w : World} {V : Nat} {cs : Array Value} {x : Value} (hV : Bd w V (.iface 91 (.agg cs))) (hc : Calls Try.prog 86 #[.agg cs] w fun r w' => r = .returned x ∧ Apart [] w w') : Calls Try.prog 22 #[.pointer (some ⟨V, 0, none⟩)] w fun r w' => r = .returned x ∧ Apart [] w w' := by
  have z : w.cell? ⟨V, 0, none⟩ = some (.iface 91 (.agg cs)) := by rw [cell_of_row _ _ _ _ _ _ hV]; rfl
  have HV := hid hV
  clear hV
  have hm := fun wx => me_elements2 cs wx
  have HC := hid hc
  clear hc
  go_enter Try.func22, Try.ntmps22
  go_wp2_with (go_at_call 86; refine HC.out.mono ?_; rintro _ w1 ⟨rfl, a1⟩; have HA1 := hid a1; clear a1)
  go_wp2_with fail
  go_ret
  exact ⟨rfl, HA1.out⟩
set_option maxRecDepth 100000 in
theorem On2 {w : World} {V : Nat} {cs : Array Value} {x : Value} (hV : Bd w V (.iface 91 (.agg cs))) (hn : cs.size = 9) (hc : Calls Try.prog 68 #[.agg #[]] w fun r w' => r = .returned x ∧ Apart [] w w') : Calls Try.prog 23 #[.pointer (some ⟨V, 0, none⟩)] w fun r w' => r = .returned x ∧ Apart [] w w' := by
  have z : w.cell? ⟨V, 0, none⟩ = some (.iface 91 (.agg cs)) := by rw [cell_of_row _ _ _ _ _ _ hV]; rfl
  have HV := hid hV
  clear hV
  have hm := fun wx => mf_on2 hn wx
  have HC := hid hc
  clear hc hn
  go_enter Try.func23, Try.ntmps23
  go_wp2_with (go_at_call 68; refine HC.out.mono ?_; rintro _ w1 ⟨rfl, a1⟩; have HA1 := hid a1; clear a1)
  go_wp2_with fail
  go_ret
  exact ⟨rfl, HA1.out⟩
set_option maxRecDepth 100000 in
theorem Text2 {w : World} {V : Nat} {cs : Array Value} {x : Value} (hV : Bd w V (.iface 91 (.agg cs))) (hn : cs.size = 9) (hc : Calls Try.prog 72 #[.agg #[]] w fun r w' => r = .returned x ∧ Apart [] w w') : Calls Try.prog 24 #[.pointer (some ⟨V, 0, none⟩)] w fun r w' => r = .returned x ∧ Apart [] w w' := by
  have z : w.cell? ⟨V, 0, none⟩ = some (.iface 91 (.agg cs)) := by rw [cell_of_row _ _ _ _ _ _ hV]; rfl
  have HV := hid hV
  clear hV
  have hm := fun wx => mf_text2 hn wx
  have HC := hid hc
  clear hc hn
  go_enter Try.func24, Try.ntmps24
  go_wp2_with (go_at_call 72; refine HC.out.mono ?_; rintro _ w1 ⟨rfl, a1⟩; have HA1 := hid a1; clear a1)
  go_wp2_with fail
  go_ret
  exact ⟨rfl, HA1.out⟩
set_option maxRecDepth 100000 in
theorem Add3_no {w : World} {V : Nat} {cs : Array Value} (a b : Value) {e : Int} (he : e ≠ 0) (hV : Bd w V (.iface 93 (.agg cs))) (hn : cs.size = 16) (hc : Calls Try.prog 66 #[.agg #[], a, b] w fun r w' => r = .returned (.tuple #[.nilIface, .int .i64 e]) ∧ Apart [] w w') : Calls Try.prog 15 #[.pointer (some ⟨V, 0, none⟩), a, b] w fun r w' => r = .returned (.int .i64 e) ∧ Apart [] w w' := by
  have z : w.cell? ⟨V, 0, none⟩ = some (.iface 93 (.agg cs)) := by rw [cell_of_row _ _ _ _ _ _ hV]; rfl
  have HV := hid hV
  clear hV
  have hm := fun wx => mf_add3 hn wx
  have HC := hid hc
  clear hc hn
  go_enter Try.func15, Try.ntmps15
  go_wp2_with (go_at_call 66; refine HC.out.mono ?_; rintro _ w1 ⟨rfl, a1⟩; have HA1 := hid a1; clear a1)
  go_wp2_with (go_at_call 31; refine (become_no _ e he).mono ?_; rintro _ _ ⟨rfl, rfl⟩)
  go_wp2_with fail
  go_ret
  exact ⟨rfl, HA1.out⟩
set_option maxRecDepth 100000 in
theorem Put3_no {w : World} {V : Nat} {cs : Array Value} (a b : Value) {e : Int} (he : e ≠ 0) (hV : Bd w V (.iface 93 (.agg cs))) (hn : cs.size = 16) (hc : Calls Try.prog 69 #[.agg #[], a, b] w fun r w' => r = .returned (.tuple #[.nilIface, .int .i64 e]) ∧ Apart [] w w') : Calls Try.prog 17 #[.pointer (some ⟨V, 0, none⟩), a, b] w fun r w' => r = .returned (.int .i64 e) ∧ Apart [] w w' := by
  have z : w.cell? ⟨V, 0, none⟩ = some (.iface 93 (.agg cs)) := by rw [cell_of_row _ _ _ _ _ _ hV]; rfl
  have HV := hid hV
  clear hV
  have hm := fun wx => mf_put3 hn wx
  have HC := hid hc
  clear hc hn
  go_enter Try.func17, Try.ntmps17
  go_wp2_with (go_at_call 69; refine HC.out.mono ?_; rintro _ w1 ⟨rfl, a1⟩; have HA1 := hid a1; clear a1)
  go_wp2_with (go_at_call 31; refine (become_no _ e he).mono ?_; rintro _ _ ⟨rfl, rfl⟩)
  go_wp2_with fail
  go_ret
  exact ⟨rfl, HA1.out⟩
set_option maxRecDepth 100000 in
theorem Switch3_no {w : World} {V : Nat} {cs : Array Value} (a b : Value) {e : Int} (he : e ≠ 0) (hV : Bd w V (.iface 93 (.agg cs))) (hc : Calls Try.prog 106 #[.agg cs, a, b] w fun r w' => r = .returned (.tuple #[.nilIface, .int .i64 e]) ∧ Apart [] w w') : Calls Try.prog 18 #[.pointer (some ⟨V, 0, none⟩), a, b] w fun r w' => r = .returned (.int .i64 e) ∧ Apart [] w w' := by
  have z : w.cell? ⟨V, 0, none⟩ = some (.iface 93 (.agg cs)) := by rw [cell_of_row _ _ _ _ _ _ hV]; rfl
  have HV := hid hV
  clear hV
  have hm := fun wx => me_turn3 cs wx
  have HC := hid hc
  clear hc
  go_enter Try.func18, Try.ntmps18
  go_wp2_with (go_at_call 106; refine HC.out.mono ?_; rintro _ w1 ⟨rfl, a1⟩; have HA1 := hid a1; clear a1)
  go_wp2_with (go_at_call 31; refine (become_no _ e he).mono ?_; rintro _ _ ⟨rfl, rfl⟩)
  go_wp2_with fail
  go_ret
  exact ⟨rfl, HA1.out⟩
set_option maxRecDepth 100000 in
theorem Switch3_ok {w : World} {V : Nat} {cs : Array Value} (a b : Value) {d : Value} (hV : Bd w V (.iface 93 (.agg cs))) (hc : Calls Try.prog 106 #[.agg cs, a, b] w fun r w' => r = .returned (.tuple #[.iface 93 d, .int .i64 0]) ∧ Apart [] w w') : Calls Try.prog 18 #[.pointer (some ⟨V, 0, none⟩), a, b] w fun r w' => r = .returned (.int .i64 0) ∧ Bd w' V (.iface 93 d) ∧ Apart [V] w w' := by
  have z : w.cell? ⟨V, 0, none⟩ = some (.iface 93 (.agg cs)) := by rw [cell_of_row _ _ _ _ _ _ hV]; rfl
  have HV := hid hV
  clear hV
  have hm := fun wx => me_turn3 cs wx
  have HC := hid hc
  clear hc
  go_enter Try.func18, Try.ntmps18
  go_wp2_with (go_at_call 106; refine HC.out.mono ?_; rintro _ w1 ⟨rfl, a1⟩; have HA1 := hid a1; clear a1)
  go_wp2_with (go_at_call 31; refine (become_ok (b0 := .iface 93 (.agg cs)) (keep0 HA1.out HV.out) 93 d).mono ?_; rintro _ w2 ⟨rfl, b2, a2⟩; have HA2 := hid (And.intro b2 a2); clear b2 a2)
  go_wp2_with fail
  go_ret
  exact ⟨rfl, HA2.out.1, (HA1.out.mono (by simp)).trans HA2.out.2⟩
set_option maxRecDepth 100000 in
theorem Write3_no {w : World} {V : Nat} {cs : Array Value} (a b : Value) {e : Int} (he : e ≠ 0) (hV : Bd w V (.iface 93 (.agg cs))) (hn : cs.size = 16) (hc : Calls Try.prog 74 #[.agg #[], a, b] w fun r w' => r = .returned (.tuple #[.nilIface, .int .i64 e]) ∧ Apart [] w w') : Calls Try.prog 19 #[.pointer (some ⟨V, 0, none⟩), a, b] w fun r w' => r = .returned (.int .i64 e) ∧ Apart [] w w' := by
  have z : w.cell? ⟨V, 0, none⟩ = some (.iface 93 (.agg cs)) := by rw [cell_of_row _ _ _ _ _ _ hV]; rfl
  have HV := hid hV
  clear hV
  have hm := fun wx => mf_write3 hn wx
  have HC := hid hc
  clear hc hn
  go_enter Try.func19, Try.ntmps19
  go_wp2_with (go_at_call 74; refine HC.out.mono ?_; rintro _ w1 ⟨rfl, a1⟩; have HA1 := hid a1; clear a1)
  go_wp2_with (go_at_call 31; refine (become_no _ e he).mono ?_; rintro _ _ ⟨rfl, rfl⟩)
  go_wp2_with fail
  go_ret
  exact ⟨rfl, HA1.out⟩
set_option maxRecDepth 100000 in
theorem Take3_no {w : World} {V : Nat} {cs : Array Value} (a : Value) {e : Int} (he : e ≠ 0) (hV : Bd w V (.iface 93 (.agg cs))) (hn : cs.size = 16) (hc : Calls Try.prog 71 #[.agg #[], a] w fun r w' => r = .returned (.tuple #[.nilIface, .int .i64 e]) ∧ Apart [] w w') : Calls Try.prog 20 #[.pointer (some ⟨V, 0, none⟩), a] w fun r w' => r = .returned (.int .i64 e) ∧ Apart [] w w' := by
  have z : w.cell? ⟨V, 0, none⟩ = some (.iface 93 (.agg cs)) := by rw [cell_of_row _ _ _ _ _ _ hV]; rfl
  have HV := hid hV
  clear hV
  have hm := fun wx => mf_take3 hn wx
  have HC := hid hc
  clear hc hn
  go_enter Try.func20, Try.ntmps20
  go_wp2_with (go_at_call 71; refine HC.out.mono ?_; rintro _ w1 ⟨rfl, a1⟩; have HA1 := hid a1; clear a1)
  go_wp2_with (go_at_call 31; refine (become_no _ e he).mono ?_; rintro _ _ ⟨rfl, rfl⟩)
  go_wp2_with fail
  go_ret
  exact ⟨rfl, HA1.out⟩
set_option maxRecDepth 100000 in
theorem Sum3 {w : World} {V : Nat} {cs : Array Value} {x : Value} (hV : Bd w V (.iface 93 (.agg cs))) (hn : cs.size = 16) (hc : Calls Try.prog 70 #[.agg #[]] w fun r w' => r = .returned x ∧ Apart [] w w') : Calls Try.prog 21 #[.pointer (some ⟨V, 0, none⟩)] w fun r w' => r = .returned x ∧ Apart [] w w' := by
  have z : w.cell? ⟨V, 0, none⟩ = some (.iface 93 (.agg cs)) := by rw [cell_of_row _ _ _ _ _ _ hV]; rfl
  have HV := hid hV
  clear hV
  have hm := fun wx => mf_sum3 hn wx
  have HC := hid hc
  clear hc hn
  go_enter Try.func21, Try.ntmps21
  go_wp2_with (go_at_call 70; refine HC.out.mono ?_; rintro _ w1 ⟨rfl, a1⟩; have HA1 := hid a1; clear a1)
  go_wp2_with fail
  go_ret
  exact ⟨rfl, HA1.out⟩
set_option maxRecDepth 100000 in
theorem Elements3 {w : World} {V : Nat} {cs : Array Value} {x : Value} (hV : Bd w V (.iface 93 (.agg cs))) (hn : cs.size = 16) (hc : Calls Try.prog 67 #[.agg #[]] w fun r w' => r = .returned x ∧ Apart [] w w') : Calls Try.prog 22 #[.pointer (some ⟨V, 0, none⟩)] w fun r w' => r = .returned x ∧ Apart [] w w' := by
  have z : w.cell? ⟨V, 0, none⟩ = some (.iface 93 (.agg cs)) := by rw [cell_of_row _ _ _ _ _ _ hV]; rfl
  have HV := hid hV
  clear hV
  have hm := fun wx => mf_elements3 hn wx
  have HC := hid hc
  clear hc hn
  go_enter Try.func22, Try.ntmps22
  go_wp2_with (go_at_call 67; refine HC.out.mono ?_; rintro _ w1 ⟨rfl, a1⟩; have HA1 := hid a1; clear a1)
  go_wp2_with fail
  go_ret
  exact ⟨rfl, HA1.out⟩
set_option maxRecDepth 100000 in
theorem On3 {w : World} {V : Nat} {cs : Array Value} {x : Value} (hV : Bd w V (.iface 93 (.agg cs))) (hc : Calls Try.prog 103 #[.agg cs] w fun r w' => r = .returned x ∧ Apart [] w w') : Calls Try.prog 23 #[.pointer (some ⟨V, 0, none⟩)] w fun r w' => r = .returned x ∧ Apart [] w w' := by
  have z : w.cell? ⟨V, 0, none⟩ = some (.iface 93 (.agg cs)) := by rw [cell_of_row _ _ _ _ _ _ hV]; rfl
  have HV := hid hV
  clear hV
  have hm := fun wx => me_on3 cs wx
  have HC := hid hc
  clear hc
  go_enter Try.func23, Try.ntmps23
  go_wp2_with (go_at_call 103; refine HC.out.mono ?_; rintro _ w1 ⟨rfl, a1⟩; have HA1 := hid a1; clear a1)
  go_wp2_with fail
  go_ret
  exact ⟨rfl, HA1.out⟩
set_option maxRecDepth 100000 in
theorem Text3 {w : World} {V : Nat} {cs : Array Value} {x : Value} (hV : Bd w V (.iface 93 (.agg cs))) (hn : cs.size = 16) (hc : Calls Try.prog 72 #[.agg #[]] w fun r w' => r = .returned x ∧ Apart [] w w') : Calls Try.prog 24 #[.pointer (some ⟨V, 0, none⟩)] w fun r w' => r = .returned x ∧ Apart [] w w' := by
  have z : w.cell? ⟨V, 0, none⟩ = some (.iface 93 (.agg cs)) := by rw [cell_of_row _ _ _ _ _ _ hV]; rfl
  have HV := hid hV
  clear hV
  have hm := fun wx => mf_text3 hn wx
  have HC := hid hc
  clear hc hn
  go_enter Try.func24, Try.ntmps24
  go_wp2_with (go_at_call 72; refine HC.out.mono ?_; rintro _ w1 ⟨rfl, a1⟩; have HA1 := hid a1; clear a1)
  go_wp2_with fail
  go_ret
  exact ⟨rfl, HA1.out⟩
set_option maxRecDepth 100000 in
theorem Add4_no {w : World} {V : Nat} {cs : Array Value} (a b : Value) {e : Int} (he : e ≠ 0) (hV : Bd w V (.iface 95 (.agg cs))) (hn : cs.size = 3) (hc : Calls Try.prog 66 #[.agg #[], a, b] w fun r w' => r = .returned (.tuple #[.nilIface, .int .i64 e]) ∧ Apart [] w w') : Calls Try.prog 15 #[.pointer (some ⟨V, 0, none⟩), a, b] w fun r w' => r = .returned (.int .i64 e) ∧ Apart [] w w' := by
  have z : w.cell? ⟨V, 0, none⟩ = some (.iface 95 (.agg cs)) := by rw [cell_of_row _ _ _ _ _ _ hV]; rfl
  have HV := hid hV
  clear hV
  have hm := fun wx => mf_add4 hn wx
  have HC := hid hc
  clear hc hn
  go_enter Try.func15, Try.ntmps15
  go_wp2_with (go_at_call 66; refine HC.out.mono ?_; rintro _ w1 ⟨rfl, a1⟩; have HA1 := hid a1; clear a1)
  go_wp2_with (go_at_call 31; refine (become_no _ e he).mono ?_; rintro _ _ ⟨rfl, rfl⟩)
  go_wp2_with fail
  go_ret
  exact ⟨rfl, HA1.out⟩
set_option maxRecDepth 100000 in
theorem Put4_no {w : World} {V : Nat} {cs : Array Value} (a b : Value) {e : Int} (he : e ≠ 0) (hV : Bd w V (.iface 95 (.agg cs))) (hn : cs.size = 3) (hc : Calls Try.prog 69 #[.agg #[], a, b] w fun r w' => r = .returned (.tuple #[.nilIface, .int .i64 e]) ∧ Apart [] w w') : Calls Try.prog 17 #[.pointer (some ⟨V, 0, none⟩), a, b] w fun r w' => r = .returned (.int .i64 e) ∧ Apart [] w w' := by
  have z : w.cell? ⟨V, 0, none⟩ = some (.iface 95 (.agg cs)) := by rw [cell_of_row _ _ _ _ _ _ hV]; rfl
  have HV := hid hV
  clear hV
  have hm := fun wx => mf_put4 hn wx
  have HC := hid hc
  clear hc hn
  go_enter Try.func17, Try.ntmps17
  go_wp2_with (go_at_call 69; refine HC.out.mono ?_; rintro _ w1 ⟨rfl, a1⟩; have HA1 := hid a1; clear a1)
  go_wp2_with (go_at_call 31; refine (become_no _ e he).mono ?_; rintro _ _ ⟨rfl, rfl⟩)
  go_wp2_with fail
  go_ret
  exact ⟨rfl, HA1.out⟩
set_option maxRecDepth 100000 in
theorem Switch4_no {w : World} {V : Nat} {cs : Array Value} (a b : Value) {e : Int} (he : e ≠ 0) (hV : Bd w V (.iface 95 (.agg cs))) (hn : cs.size = 3) (hc : Calls Try.prog 73 #[.agg #[], a, b] w fun r w' => r = .returned (.tuple #[.nilIface, .int .i64 e]) ∧ Apart [] w w') : Calls Try.prog 18 #[.pointer (some ⟨V, 0, none⟩), a, b] w fun r w' => r = .returned (.int .i64 e) ∧ Apart [] w w' := by
  have z : w.cell? ⟨V, 0, none⟩ = some (.iface 95 (.agg cs)) := by rw [cell_of_row _ _ _ _ _ _ hV]; rfl
  have HV := hid hV
  clear hV
  have hm := fun wx => mf_turn4 hn wx
  have HC := hid hc
  clear hc hn
  go_enter Try.func18, Try.ntmps18
  go_wp2_with (go_at_call 73; refine HC.out.mono ?_; rintro _ w1 ⟨rfl, a1⟩; have HA1 := hid a1; clear a1)
  go_wp2_with (go_at_call 31; refine (become_no _ e he).mono ?_; rintro _ _ ⟨rfl, rfl⟩)
  go_wp2_with fail
  go_ret
  exact ⟨rfl, HA1.out⟩
set_option maxRecDepth 100000 in
theorem Write4_no {w : World} {V : Nat} {cs : Array Value} (a b : Value) {e : Int} (he : e ≠ 0) (hV : Bd w V (.iface 95 (.agg cs))) (hc : Calls Try.prog 111 #[.agg cs, a, b] w fun r w' => r = .returned (.tuple #[.nilIface, .int .i64 e]) ∧ Apart [] w w') : Calls Try.prog 19 #[.pointer (some ⟨V, 0, none⟩), a, b] w fun r w' => r = .returned (.int .i64 e) ∧ Apart [] w w' := by
  have z : w.cell? ⟨V, 0, none⟩ = some (.iface 95 (.agg cs)) := by rw [cell_of_row _ _ _ _ _ _ hV]; rfl
  have HV := hid hV
  clear hV
  have hm := fun wx => me_write4 cs wx
  have HC := hid hc
  clear hc
  go_enter Try.func19, Try.ntmps19
  go_wp2_with (go_at_call 111; refine HC.out.mono ?_; rintro _ w1 ⟨rfl, a1⟩; have HA1 := hid a1; clear a1)
  go_wp2_with (go_at_call 31; refine (become_no _ e he).mono ?_; rintro _ _ ⟨rfl, rfl⟩)
  go_wp2_with fail
  go_ret
  exact ⟨rfl, HA1.out⟩
set_option maxRecDepth 100000 in
theorem Write4_ok {w : World} {V : Nat} {cs : Array Value} (a b : Value) {d : Value} (hV : Bd w V (.iface 95 (.agg cs))) (hc : Calls Try.prog 111 #[.agg cs, a, b] w fun r w' => r = .returned (.tuple #[.iface 95 d, .int .i64 0]) ∧ Apart [] w w') : Calls Try.prog 19 #[.pointer (some ⟨V, 0, none⟩), a, b] w fun r w' => r = .returned (.int .i64 0) ∧ Bd w' V (.iface 95 d) ∧ Apart [V] w w' := by
  have z : w.cell? ⟨V, 0, none⟩ = some (.iface 95 (.agg cs)) := by rw [cell_of_row _ _ _ _ _ _ hV]; rfl
  have HV := hid hV
  clear hV
  have hm := fun wx => me_write4 cs wx
  have HC := hid hc
  clear hc
  go_enter Try.func19, Try.ntmps19
  go_wp2_with (go_at_call 111; refine HC.out.mono ?_; rintro _ w1 ⟨rfl, a1⟩; have HA1 := hid a1; clear a1)
  go_wp2_with (go_at_call 31; refine (become_ok (b0 := .iface 95 (.agg cs)) (keep0 HA1.out HV.out) 95 d).mono ?_; rintro _ w2 ⟨rfl, b2, a2⟩; have HA2 := hid (And.intro b2 a2); clear b2 a2)
  go_wp2_with fail
  go_ret
  exact ⟨rfl, HA2.out.1, (HA1.out.mono (by simp)).trans HA2.out.2⟩
set_option maxRecDepth 100000 in
theorem Take4_no {w : World} {V : Nat} {cs : Array Value} (a : Value) {e : Int} (he : e ≠ 0) (hV : Bd w V (.iface 95 (.agg cs))) (hn : cs.size = 3) (hc : Calls Try.prog 71 #[.agg #[], a] w fun r w' => r = .returned (.tuple #[.nilIface, .int .i64 e]) ∧ Apart [] w w') : Calls Try.prog 20 #[.pointer (some ⟨V, 0, none⟩), a] w fun r w' => r = .returned (.int .i64 e) ∧ Apart [] w w' := by
  have z : w.cell? ⟨V, 0, none⟩ = some (.iface 95 (.agg cs)) := by rw [cell_of_row _ _ _ _ _ _ hV]; rfl
  have HV := hid hV
  clear hV
  have hm := fun wx => mf_take4 hn wx
  have HC := hid hc
  clear hc hn
  go_enter Try.func20, Try.ntmps20
  go_wp2_with (go_at_call 71; refine HC.out.mono ?_; rintro _ w1 ⟨rfl, a1⟩; have HA1 := hid a1; clear a1)
  go_wp2_with (go_at_call 31; refine (become_no _ e he).mono ?_; rintro _ _ ⟨rfl, rfl⟩)
  go_wp2_with fail
  go_ret
  exact ⟨rfl, HA1.out⟩
set_option maxRecDepth 100000 in
theorem Sum4 {w : World} {V : Nat} {cs : Array Value} {x : Value} (hV : Bd w V (.iface 95 (.agg cs))) (hn : cs.size = 3) (hc : Calls Try.prog 70 #[.agg #[]] w fun r w' => r = .returned x ∧ Apart [] w w') : Calls Try.prog 21 #[.pointer (some ⟨V, 0, none⟩)] w fun r w' => r = .returned x ∧ Apart [] w w' := by
  have z : w.cell? ⟨V, 0, none⟩ = some (.iface 95 (.agg cs)) := by rw [cell_of_row _ _ _ _ _ _ hV]; rfl
  have HV := hid hV
  clear hV
  have hm := fun wx => mf_sum4 hn wx
  have HC := hid hc
  clear hc hn
  go_enter Try.func21, Try.ntmps21
  go_wp2_with (go_at_call 70; refine HC.out.mono ?_; rintro _ w1 ⟨rfl, a1⟩; have HA1 := hid a1; clear a1)
  go_wp2_with fail
  go_ret
  exact ⟨rfl, HA1.out⟩
set_option maxRecDepth 100000 in
theorem Elements4 {w : World} {V : Nat} {cs : Array Value} {x : Value} (hV : Bd w V (.iface 95 (.agg cs))) (hn : cs.size = 3) (hc : Calls Try.prog 67 #[.agg #[]] w fun r w' => r = .returned x ∧ Apart [] w w') : Calls Try.prog 22 #[.pointer (some ⟨V, 0, none⟩)] w fun r w' => r = .returned x ∧ Apart [] w w' := by
  have z : w.cell? ⟨V, 0, none⟩ = some (.iface 95 (.agg cs)) := by rw [cell_of_row _ _ _ _ _ _ hV]; rfl
  have HV := hid hV
  clear hV
  have hm := fun wx => mf_elements4 hn wx
  have HC := hid hc
  clear hc hn
  go_enter Try.func22, Try.ntmps22
  go_wp2_with (go_at_call 67; refine HC.out.mono ?_; rintro _ w1 ⟨rfl, a1⟩; have HA1 := hid a1; clear a1)
  go_wp2_with fail
  go_ret
  exact ⟨rfl, HA1.out⟩
set_option maxRecDepth 100000 in
theorem On4 {w : World} {V : Nat} {cs : Array Value} {x : Value} (hV : Bd w V (.iface 95 (.agg cs))) (hn : cs.size = 3) (hc : Calls Try.prog 68 #[.agg #[]] w fun r w' => r = .returned x ∧ Apart [] w w') : Calls Try.prog 23 #[.pointer (some ⟨V, 0, none⟩)] w fun r w' => r = .returned x ∧ Apart [] w w' := by
  have z : w.cell? ⟨V, 0, none⟩ = some (.iface 95 (.agg cs)) := by rw [cell_of_row _ _ _ _ _ _ hV]; rfl
  have HV := hid hV
  clear hV
  have hm := fun wx => mf_on4 hn wx
  have HC := hid hc
  clear hc hn
  go_enter Try.func23, Try.ntmps23
  go_wp2_with (go_at_call 68; refine HC.out.mono ?_; rintro _ w1 ⟨rfl, a1⟩; have HA1 := hid a1; clear a1)
  go_wp2_with fail
  go_ret
  exact ⟨rfl, HA1.out⟩
set_option maxRecDepth 100000 in
theorem Text4 {w : World} {V : Nat} {cs : Array Value} {x : Value} (hV : Bd w V (.iface 95 (.agg cs))) (hc : Calls Try.prog 110 #[.agg cs] w fun r w' => r = .returned x ∧ Apart [] w w') : Calls Try.prog 24 #[.pointer (some ⟨V, 0, none⟩)] w fun r w' => r = .returned x ∧ Apart [] w w' := by
  have z : w.cell? ⟨V, 0, none⟩ = some (.iface 95 (.agg cs)) := by rw [cell_of_row _ _ _ _ _ _ hV]; rfl
  have HV := hid hV
  clear hV
  have hm := fun wx => me_text4 cs wx
  have HC := hid hc
  clear hc
  go_enter Try.func24, Try.ntmps24
  go_wp2_with (go_at_call 110; refine HC.out.mono ?_; rintro _ w1 ⟨rfl, a1⟩; have HA1 := hid a1; clear a1)
  go_wp2_with fail
  go_ret
  exact ⟨rfl, HA1.out⟩
end Go.Proofs.Ytdbeeikjngnnnaa.ty
