import Derived.Test.YtagjmpdimphfaaaAskW
import Derived.Lib.SlBytesConst
namespace Go.Proofs.Ytagjmpdimphfaaa.rg
open Go.ChangeShapes Go.WideShapes Go.ChangeAt Go.RowKit
set_option linter.unusedVariables false
set_option linter.unusedSimpArgs false
structure MadePost (w w' : World) (r : Ending) (n m : Nat) : Prop where
  ex : ∃ R Q, r = .returned (.tuple #[.pointer (some ⟨R, 0, none⟩), .pointer (some ⟨Q, 0, none⟩), .bool true]) ∧ Rg w' R n m ∧ Rg w' Q n m ∧ Apart [] w w'
theorem made_ok (n m : Nat) (h1 : 1 ≤ n) (h2 : n ≤ 8) (h3 : 1 ≤ m) (h4 : m ≤ 16) (w : World) : Calls Try.prog 21 #[.int .i64 n, .int .i64 m] w fun r w' => MadePost w w' r n m := by
  go_enter Try.func21, Try.ntmps21
  go_wp2_with fail
  refine (new_ok n m h1 h2 h3 h4 w).mono ?_
  rintro r w1 ⟨⟨rfl, G1⟩, a1⟩
  dsimp only
  generalize w.heap.size = R at *
  go_wp2_with fail
  refine (rnew_ok n m h1 h2 h3 h4 w1).mono ?_
  rintro r w2 ⟨⟨rfl, G2⟩, a2⟩
  dsimp only
  generalize w1.heap.size = Q at *
  have G1' := G1.kept0 a2
  have A2 := a1.trans a2
  go_wp2_with (go_at_call 11; refine (num_ok _ _).mono ?_; rintro e w' ⟨rfl, rfl⟩)
  go_ret3
  exact ⟨⟨R, Q, rfl, G1', G2, A2⟩⟩
theorem made_bad (n m : Int) (h : n < 1 ∨ 8 < n ∨ m < 1 ∨ 16 < m) (w : World) : Calls Try.prog 21 #[.int .i64 n, .int .i64 m] w fun r w' => r = .returned (.tuple #[.pointer none, .pointer none, .bool true]) ∧ w' = w := by
  go_enter Try.func21, Try.ntmps21
  go_wp2_with fail
  refine (new_bad n m h w).mono ?_
  rintro r w1 ⟨rfl, rfl⟩
  dsimp only
  go_wp2_with fail
  refine (rnew_bad n m h w1).mono ?_
  rintro r w2 ⟨rfl, rfl⟩
  dsimp only
  go_wp2_with (go_at_call 11; refine (num_ok _ _).mono ?_; rintro e w' ⟨rfl, rfl⟩)
  go_ret3
  exact ⟨rfl, rfl⟩
/-- all of the call's own -/
structure Cb (w0 w : World) (S mark : Nat) (d : Sd) (who : Nat → Option Nat) (R Q n m : Nat) : Prop where
  cx : Cx w S mark d who R Q n m
  ap : Apart [] w0 w
  nb : ∀ k s, who k = some s → w0.heap.size ≤ k
theorem Cb.step {w0 w w' : World} {r : Ending} {S mark : Nat} {d : Sd} {who : Nat → Option Nat} {R Q n m : Nat} (C : Cb w0 w S mark d who R Q n m) (p : AskP w w' r S mark who) : ∃ mark' d' who', mark' ≤ mark + 1 ∧ Cb w0 w' S mark' d' who' R Q n m := by
  obtain ⟨mark', d', who', hm, hS, hw⟩ := p.ex
  have s0 := C.ap.size
  have hn : ∀ k, k < w.heap.size → who k = none → who' k = none := fun k hk hn => by
    cases hx : who' k with
    | none => rfl
    | some s =>
      rcases hw k s hx with h | h
      · rw [hn] at h; cases h
      · omega
  refine ⟨mark', d', who', hm, ⟨hS, C.cx.g1.same (p.fr.block R C.cx.g1.lt C.cx.wR), C.cx.g2.same (p.fr.block Q C.cx.g2.lt C.cx.wQ), hn R C.cx.g1.lt C.cx.wR, hn Q C.cx.g2.lt C.cx.wQ⟩, ?_, fun k s hk => ?_⟩
  · refine ⟨p.fr.os.trans C.ap.os, p.fr.tape.trans C.ap.tape, p.fr.output.trans C.ap.output, Nat.le_trans s0 p.fr.size, fun k hk _ => ?_⟩
    rw [p.fr.block k (by omega) ?_, C.ap.block k hk (by simp)]
    cases hx : who k with
    | none => rfl
    | some s => have := C.nb k s hx; omega
  · rcases hw k s hk with h | h
    · exact C.nb k s h
    · omega
/-- a new shelf -/
theorem shelf0 (w : World) : Sh (w.alloc (.cells #[.slice none 0 0, .slice none 0 0, .int .i64 0, .slice none 0 0, .slice none 0 0] 53)) w.heap.size 0 ⟨[], [], [], []⟩ (fun k => if k = w.heap.size then some 0 else none) := by
  refine ⟨⟨fun k t hk => ?_, by simp, fun _ => .slice none 0 0, fun _ => none, (by show (w.heap.push _)[w.heap.size]? = _; rw [Array.getElem?_push_size]; rfl), fun f hf => ⟨⟨rfl, ?_⟩, fun g hg => by cases hg⟩⟩, by simp, by simp, by simp, ⟨rfl, by simp, rfl, by simp, by simp⟩, by simp⟩
  · split at hk
    · rename_i e; subst e; simp
    · cases hk
  · simp only [fs, List.mem_cons, List.not_mem_nil, or_false] at hf
    rcases hf with rfl | rfl | rfl | rfl <;> rfl
theorem cb0 {w0 w : World} {R Q n m : Nat} (a : Apart [] w0 w) (g1 : Rg w R n m) (g2 : Rg w Q n m) : ∃ d who, Cb w0 (w.alloc (.cells #[.slice none 0 0, .slice none 0 0, .int .i64 0, .slice none 0 0, .slice none 0 0] 53)) w.heap.size 0 d who R Q n m := by
  have aA : Apart [] w (w.alloc (.cells #[.slice none 0 0, .slice none 0 0, .int .i64 0, .slice none 0 0, .slice none 0 0] 53)) := (Apart.refl _ _).alloc _
  refine ⟨_, _, ⟨shelf0 w, g1.kept0 aA, g2.kept0 aA, ?_, ?_⟩, a.trans aA, fun k s hk => ?_⟩
  · have := g1.lt; simp; omega
  · have := g2.lt; simp; omega
  · split at hk
    · rename_i e; subst e; exact a.size
    · cases hk
theorem hash_a : hashN [97] = 3035041849 := by decide +kernel
set_option maxHeartbeats 8000000 in
set_option maxRecDepth 100000 in
theorem alive_ok (w : World) : Calls Try.prog 20 #[] w fun r w' => r = .returned (.bool true) ∧ Apart [] w w' := by
  go_enter Try.func20, Try.ntmps20
  go_wp2_with fail
  refine (made_ok 3 4 (by omega) (by omega) (by omega) (by omega) w).mono ?_
  rintro r w1 ⟨⟨R, Q, rfl, G1, G2, a1⟩⟩
  dsimp only
  have HG1 : Hid (Rg w1 R 3 4) := G1
  have HG2 : Hid (Rg w1 Q 3 4) := G2
  clear G1 G2
  have kc := fun (w : World) (C : Array Value) (n c : Nat) => Lib.run_convert_bytes_const (P := Try.prog) w 64 5 C n c Try.underlying64 Try.underlying5
  have aH : Apart [] w (w1.alloc (.cells #[.int .u8 97] 5 (1, 2))) := a1.alloc _
  have hBy : By (w1.alloc (.cells #[.int .u8 97] 5 (1, 2))) (some ⟨w1.heap.size, 0, none⟩) 1 [97] := by
    refine ⟨rfl, by simp, fun _ => ⟨w1.heap.size, 0, rfl, by simp, fun i hi => ?_⟩⟩
    match i, hi with
    | 0, _ => exact World.cell?_alloc_mark w1 _ 5 (1, 2) 0
  go_wp2_with fail
  refine (hash_ok hBy (by omega)).mono ?_
  rintro r w2 ⟨rfl, hw2⟩
  dsimp only
  rw [hash_a]
  have aw2 : Apart [] w1 w2 := by rw [hw2]; exact (Apart.refl _ _).alloc _
  have A2 : Apart [] w w2 := by rw [hw2]; exact aH
  clear hw2 hBy aH kc
  obtain ⟨d, who, hCb⟩ := cb0 A2 (HG1.out.kept0 aw2) (HG2.out.kept0 aw2)
  have HCb : Hid (Cb w (w2.alloc (.cells #[.slice none 0 0, .slice none 0 0, .int .i64 0, .slice none 0 0, .slice none 0 0] 53)) w2.heap.size 0 d who R Q 3 4) := hCb
  clear hCb
  go_wp2_with fail
  generalize w2.heap.size = S at *
  refine (asked_2 HCb.out.cx (by omega) _ _ _ _).mono ?_
  intro r w3 hp
  obtain ⟨m3, d3, who3, hm3, c3⟩ := HCb.out.step hp
  obtain rfl := hp.ret
  clear hp
  dsimp only
  have H3 : Hid (Cb w w3 S m3 d3 who3 R Q 3 4) := c3
  clear c3
  go_wp2_with fail
  refine (asked_1 H3.out.cx _ _ _ _ (by decide)).mono ?_
  intro r w4 hp
  obtain ⟨m4, d4, who4, hm4, c4⟩ := H3.out.step hp
  obtain rfl := hp.ret
  clear hp
  dsimp only
  have H4 : Hid (Cb w w4 S m4 d4 who4 R Q 3 4) := c4
  clear c4
  go_wp2_with fail
  refine (asked_5 H4.out.cx _ _ _ _).mono ?_
  intro r w5 hp
  obtain ⟨m5, d5, who5, hm5, c5⟩ := H4.out.step hp
  obtain rfl := hp.ret
  clear hp
  dsimp only
  have H5 : Hid (Cb w w5 S m5 d5 who5 R Q 3 4) := c5
  clear c5
  go_wp2_with fail
  refine (asked_3 H5.out.cx (by omega) _ _ _ _).mono ?_
  intro r w6 hp
  obtain ⟨m6, d6, who6, hm6, c6⟩ := H5.out.step hp
  obtain rfl := hp.ret
  clear hp
  dsimp only
  have H6 : Hid (Cb w w6 S m6 d6 who6 R Q 3 4) := c6
  clear c6
  go_wp2_with fail
  refine (asked_4 H6.out.cx (by omega) _ _ _ _).mono ?_
  intro r w7 hp
  obtain ⟨m7, d7, who7, hm7, c7⟩ := H6.out.step hp
  obtain rfl := hp.ret
  clear hp
  dsimp only
  go_wp2_with fail
  go_ret
  exact ⟨rfl, c7.ap⟩
end Go.Proofs.Ytagjmpdimphfaaa.rg
