import Derived.Test.YtllhmidpphlbhaaG16
import Derived.ArgAppend
import Derived.Laws.MakeOwn
namespace Go.Proofs.Ytllhmidpphlbhaa.ds
open Go.ChangeShapes Go.WideShapes Go.ChangeAt Go.RowKit Go.Sort
set_option linter.unusedVariables false
set_option linter.unusedSimpArgs false
theorem byts_app (a b : List Nat) : byts (a ++ b) = byts a ++ byts b := by unfold byts; rw [List.map_append]
theorem byts_len (a : List Nat) : (byts a).length = a.length := by unfold byts; rw [List.length_map]
/-- a page that is being written: block g -/
structure PB (wB w : World) (g : Nat) (us : List Nat) : Prop where
  blk : w.heap[g]? = some (.cells (byts (pad us)).toArray 5 (0, 0))
  len : us.length ≤ 2048
  new : wB.heap.size ≤ g
  ap : Apart [] wB w
theorem PB.kept {wB w w' : World} {g : Nat} {us : List Nat} {X : List Nat} (h : PB wB w g us) (a : Apart X w w') (hg : g ∉ X) (hX : ∀ x ∈ X, wB.heap.size ≤ x) : PB wB w' g us :=
  { h with blk := (a.block _ (lt_of_heap h.blk) hg).trans h.blk, ap := h.ap.trans' a (fun y hy => .inr (hX y hy)) }
theorem PB.kept0 {wB w w' : World} {g : Nat} {us : List Nat} (h : PB wB w g us) (a : Apart [] w w') : PB wB w' g us := h.kept a (by simp) (by simp)
theorem pad_spl {us news : List Nat} (h : us.length + news.length ≤ 2048) : spl (byts (pad us)).toArray us.length (byts news) = (byts (pad (us ++ news))).toArray := by
  have hl := pad_len (l := us) (by omega)
  rw [spl_list _ _ _ (by rw [byts_len, byts_len, hl]; omega)]
  congr 1
  unfold byts
  rw [← List.map_take, ← List.map_drop, ← List.map_append, ← List.map_append, List.length_map]
  congr 1
  unfold pad
  rw [List.take_left' rfl, List.drop_append, List.drop_eq_nil_of_le (by omega), List.nil_append, List.drop_replicate, List.length_append]
  congr 2
  omega
/-- bytes more, that stand somewhere else -/
theorem PB.app {wB w : World} {g : Nat} {us : List Nat} (h : PB wB w g us) (news : List Nat) (a : Addr) (c : Nat) (hn : ∀ j u, (byts news)[j]? = some u → w.cell? (a.add j) = some u) (hl : us.length + news.length ≤ 2048) :
    ∃ W', (Builtin.append_ #[28, 28] 28 #[.slice (some ⟨g, 0, none⟩) us.length 2048, .slice (some a) news.length c]).run Try.prog w = .ok (.slice (some ⟨g, 0, none⟩) (us ++ news).length 2048) W' ∧ PB wB W' g (us ++ news) ∧ Apart [g] w W' := by
  obtain ⟨i0, hif, hz0, hz1, hz2⟩ := info_parts infoB
  have hp := pad_len h.len
  have hr := run_append_room_cells (P := Try.prog) w 28 28 5 i0 Try.underlying28 hif g 0 us.length 2048 a news.length c (byts news) (by rw [byts_len, hz1, Nat.mul_one]) hn (oneB _) hl
    (fun j hj => by rw [byts_len] at hj; rw [cell_of_row _ _ _ _ _ _ h.blk, hz1, Array.getElem?_eq_getElem (by rw [List.size_toArray, byts_len, hp]; omega)]; rfl)
    (fun j hj => frozen_of_row _ _ _ _ _ h.blk)
  rw [hz1, Nat.zero_add, Nat.mul_one] at hr
  have hb := heap_setCells_same (byts news) us.length w _ h.blk
  rw [pad_spl hl] at hb
  have ha : Apart [g] w (w.setCells g us.length (byts news)) := apart_setCells _ _ _ (Apart.refl _ _) (.inl (by simp))
  exact ⟨_, by rw [List.length_append]; exact hr, ⟨hb, by rw [List.length_append]; exact hl, h.new, h.ap.trans' ha (by intro y hy; simp at hy; rw [hy]; exact .inr h.new)⟩, ha⟩
/-- one byte more -/
theorem PB.app1 {wB w : World} {g : Nat} {us : List Nat} (h : PB wB w g us) (x : Nat) (hl : us.length + 1 ≤ 2048) :
    ∃ W', (Builtin.append_ #[28, 28] 28 #[.slice (some ⟨g, 0, none⟩) us.length 2048, .slice (some ⟨w.heap.size, 0, none⟩) 1 1]).run Try.prog (w.alloc (Obj.cells #[.int .u8 (x : Int)] 5)) = .ok (.slice (some ⟨g, 0, none⟩) (us ++ [x]).length 2048) W' ∧ PB wB W' g (us ++ [x]) ∧ Apart [g] w W' := by
  have a : Apart [] w (w.alloc (Obj.cells #[.int .u8 (x : Int)] 5)) := (Apart.refl [] w).alloc _
  obtain ⟨W', h1, h2, h3⟩ := (h.kept0 a).app [x] ⟨w.heap.size, 0, none⟩ 1 (fun j u hj => by
    cases j with
    | zero =>
      simp [byts] at hj
      rw [← hj, Addr.add_mid, cell_of_row _ _ _ _ _ _ (heap_alloc_new w _)]; rfl
    | succ j => simp [byts] at hj) hl
  exact ⟨W', h1, h2, (a.mono (by simp)).trans h3⟩
theorem strCells_byts (k : ByteArray) : Lib.strCells k = byts (bsk k) := by
  unfold Lib.strCells byts bsk
  rw [ByteArray.toList_eq, List.map_map]
  rfl
/-- a text more -/
theorem PB.appS {wB w : World} {g : Nat} {us : List Nat} (h : PB wB w g us) (k : ByteArray) (hl : us.length + k.size ≤ 2048) :
    ∃ W', (Builtin.append_ #[28, 9] 28 #[.slice (some ⟨g, 0, none⟩) us.length 2048, .string k]).run Try.prog w = .ok (.slice (some ⟨g, 0, none⟩) (us ++ bsk k).length 2048) W' ∧ PB wB W' g (us ++ bsk k) ∧ Apart [g] w W' := by
  obtain ⟨i0, hif, hz0, hz1, hz2⟩ := info_parts infoB
  have hp := pad_len h.len
  have hkl := bsk_len k
  have hr := Lib.run_append_room_string (P := Try.prog) w 28 9 28 5 i0 Try.underlying28 Try.underlying9 hif hz1 g us.length 2048 _ h.blk k hl (by rw [List.size_toArray, byts_len, hp]; exact hl)
  have hs := pad_spl (us := us) (news := bsk k) (by omega)
  rw [spl_list _ _ _ (by rw [byts_len, byts_len, hp]; omega), byts_len, hkl] at hs
  rw [strCells_byts] at hr
  have e : ((byts (pad us)).toArray.toList.take us.length ++ byts (bsk k) ++ (byts (pad us)).toArray.toList.drop (us.length + k.size)).toArray = (byts (pad (us ++ bsk k))).toArray := hs
  rw [e] at hr
  have hb : (w.setRow g (byts (pad (us ++ bsk k))).toArray).heap[g]? = some (.cells (byts (pad (us ++ bsk k))).toArray 5 (0, 0)) := setRow_heap w g _ _ 5 (0, 0) h.blk
  have ha : Apart [g] w (w.setRow g (byts (pad (us ++ bsk k))).toArray) := ⟨rfl, rfl, rfl, by rw [setRow_size]; exact Nat.le_refl _, fun j hj hx => setRow_other w g j _ (by simp at hx; exact hx)⟩
  exact ⟨_, by rw [List.length_append, hkl]; exact hr, ⟨hb, by rw [List.length_append]; omega, h.new, h.ap.trans' ha (by intro y hy; simp at hy; rw [hy]; exact .inr h.new)⟩, ha⟩
end Go.Proofs.Ytllhmidpphlbhaa.ds
namespace Go.Proofs.Ytllhmidpphlbhaa.ds
open Go.ChangeShapes Go.WideShapes Go.ChangeAt Go.RowKit Go.Sort
set_option linter.unusedVariables false
set_option linter.unusedSimpArgs false
/-- what an appending call leaves: the page with more bytes -/
structure PA (wB w w' : World) (g : Nat) (us : List Nat) (e : Ending) : Prop where
  e : e = .returned (.slice (some ⟨g, 0, none⟩) us.length 2048)
  b : PB wB w' g us
  a : Apart [g] w w'
theorem made1 (z : Value) (n : Nat) : madeCells #[z] n = (List.replicate n z).toArray := by
  unfold madeCells
  apply Array.ext
  · simp
  · intro i h1 h2
    simp
    rw [show i % 1 = 0 from by omega]; rfl
theorem zeros_made : (madeCells #[Value.int .u8 0] 2048) = (byts (pad [])).toArray := by
  rw [made1]
  unfold byts pad
  rw [List.nil_append, List.map_replicate]
  rfl
theorem infoB5 : (Try.prog.info? 5).map (fun i => (i.zero, i.size, i.bytes)) = some (some (.int .u8 0), 1, 1) := by kernel_rfl
set_option maxHeartbeats 4000000 in
set_option maxRecDepth 100000 in
theorem begun_ok (w : World) (k : Nat) : Calls Try.prog 66 #[.int .u8 (k : Nat)] w fun e w' => PA w w w' w.heap.size [k] e ∧ Apart [] w w' := by
  obtain ⟨i0, hif, hz0, hz1, hz2⟩ := info_parts infoB5
  have hm : (Instr.makeSlice 28 (.int .i64 0) (.int .i64 2048)).run Try.prog w = .ok (.slice (some ⟨w.heap.size, 0, none⟩) 0 2048) (w.alloc (.cells (byts (pad [])).toArray 5)) := by
    have := run_make (P := Try.prog) w 28 5 i0 (.int .u8 0) Try.underlying28 hif hz0 .i64 .i64 0 2048 (by omega) (by omega) (by rw [hz2]; decide) (by decide)
    rw [hz1] at this
    rw [← zeros_made]; exact this
  obtain ⟨g, Hg⟩ : ∃ g, Hid (g = w.heap.size) := ⟨_, rfl⟩
  obtain ⟨w1, hw1⟩ : ∃ W, W = w.alloc (.cells (byts (pad [])).toArray 5) := ⟨_, rfl⟩
  have HA1 : Hid (Apart [] w w1) := by unfold Hid; rw [hw1]; exact (Apart.refl [] w).alloc _
  have HB1 : Hid (PB w w1 g []) := ⟨by rw [Hg.out, hw1]; exact heap_alloc_new w _, by simp, by rw [Hg.out]; exact Nat.le_refl _, HA1.out⟩
  obtain ⟨W', h1, h2, h3⟩ := HB1.out.app1 k (by simp)
  have HRUN := hid h1
  have HB2 := hid h2
  have HA2 := hid h3
  rw [← hw1, ← Hg.out] at hm
  rw [← Hg.out]
  clear h1 h2 h3 hif hz0 hz1 hz2 i0 hw1
  go_enter Try.func66, Try.ntmps66
  go_wp2_with (at_builtin; refine wpList_app2 rfl (.tmp 3) (.tmp 5) 28 28 rfl _ _ rfl rfl _ _ HRUN.out ?_)
  go_ret
  have ha : Apart [] w W' := HA1.out.trans' HA2.out (by intro y hy; simp at hy; rw [hy, Hg.out]; exact .inr (Nat.le_refl _))
  exact ⟨⟨rfl, HB2.out, ha.mono (by simp)⟩, ha⟩
set_option maxRecDepth 100000 in
theorem whole_ok {wB w : World} {g : Nat} {us : List Nat} (h : PB wB w g us) : Calls Try.prog 69 #[.slice (some ⟨g, 0, none⟩) us.length 2048] w fun e w' => e = .returned (.slice (some ⟨g, 0, none⟩) 2048 2048) ∧ w' = w := by
  have hl := h.len
  clear h
  go_enter Try.func69, Try.ntmps69
  go_wp2_with fail
  go_ret
  exact ⟨rfl, rfl⟩
set_option maxRecDepth 100000 in
theorem deadByte_ok (w : World) (d : Bool) : Calls Try.prog 94 #[.bool d] w fun e w' => e = .returned (.int .u8 (if d = true then 1 else 0)) ∧ w' = w := by
  cases d
  · go_enter Try.func94, Try.ntmps94
    go_wp2_with fail
    go_ret
    exact ⟨rfl, rfl⟩
  · go_enter Try.func94, Try.ntmps94
    go_wp2_with fail
    go_ret
    exact ⟨rfl, rfl⟩
theorem encN_succ : ∀ (k n : Nat), encN (k + 1) n = encN k n ++ [n / 256 ^ k % 256]
  | 0, n => by simp [encN]
  | k + 1, n => by
    have ih := encN_succ k (n / 256)
    show n % 256 :: encN (k + 1) (n / 256) = n % 256 :: encN k (n / 256) ++ [n / 256 ^ (k + 1) % 256]
    rw [ih, Nat.div_div_eq_div_mul, Nat.pow_succ, Nat.mul_comm 256]
    rfl
set_option maxHeartbeats 4000000 in
set_option maxRecDepth 100000 in
theorem anum_ok {wB w : World} {g : Nat} {us : List Nat} (h : PB wB w g us) (n k : Nat) (hn : n < 18446744073709551616) (hk : us.length + k ≤ 2048) : Calls Try.prog 89 #[.slice (some ⟨g, 0, none⟩) us.length 2048, .int .u64 (n : Nat), .int .i64 (k : Nat)] w fun e w' => PA wB w w' g (us ++ encN k n) e := by
  have HB := hid h
  clear h
  go_enter Try.func89, Try.ntmps89
  go_wp2_with fail
  go_loopw [0, 1, 8] (fun a b c wt => ∃ (i : Nat), a = .slice (some ⟨g, 0, none⟩) (us ++ encN i n).length 2048 ∧ b = .int .u64 ((n / 256 ^ i : Nat) : Int) ∧ c = .int .i64 (i : Nat) ∧ i ≤ k ∧ PB wB wt g (us ++ encN i n) ∧ Apart [g] w wt) (fun _ _ c _ => k - (intOf c).toNat)
  case atStart => exact ⟨0, by simp [encN], by simp, rfl, Nat.zero_le _, by simpa [encN] using HB.out, Apart.refl _ _⟩
  case round =>
    obtain ⟨i, rfl, rfl, rfl, hi, hb, ha⟩ := hrel
    have HB1 := hid hb
    have HA1 := hid ha
    clear hb ha
    by_cases hlt : i < k
    · have hlti : ((i : Nat) : Int) < (k : Int) := by omega
      obtain ⟨m, Hm⟩ : ∃ m, Hid (m = n / 256 ^ i) := ⟨_, rfl⟩
      have hm64 : m < 18446744073709551616 := by rw [Hm.out]; exact Nat.lt_of_le_of_lt (Nat.div_le_self _ _) hn
      rw [← Hm.out]
      obtain ⟨x, Hx⟩ : ∃ x, Hid (x = m % 256) := ⟨_, rfl⟩
      have hw8 : IntKind.u8.wrap (m : Int) = (x : Int) := by rw [IntKind.wrap_u8, Hx.out]; omega
      obtain ⟨m2, Hm2⟩ : ∃ m2, Hid (m2 = m / 256) := ⟨_, rfl⟩
      have hl := encN_len i n
      obtain ⟨W', h1, h2, h3⟩ := HB1.out.app1 x (by rw [List.length_append, hl]; omega)
      have HRUN := hid h1
      have HE : Hid (us ++ encN i n ++ [x] = us ++ encN (i + 1) n) := by unfold Hid; rw [encN_succ, Hx.out, Hm.out, List.append_assoc]
      have HB2 : Hid (PB wB W' g (us ++ encN (i + 1) n)) := by unfold Hid; rw [← HE.out]; exact h2
      have HA2 := hid (HA1.out.trans h3)
      rw [HE.out] at HRUN
      have HM3 : Hid (m2 = n / 256 ^ (i + 1)) := by unfold Hid; rw [Hm2.out, Hm.out, Nat.div_div_eq_div_mul, Nat.pow_succ]
      clear h1 h2 h3
      generalize us ++ encN i n = vs at *
      obtain ⟨vs2, Hvs⟩ : ∃ vs2, Hid (vs2 = us ++ encN (i + 1) n) := ⟨_, rfl⟩
      rw [← Hvs.out] at HRUN
      go_wp2_with (at_builtin; refine wpList_app2 rfl (.tmp 10) (.tmp 13) 28 28 rfl _ _ rfl rfl _ _ HRUN.out ?_)
      go_roundw
      case rel => exact ⟨i + 1, by rw [Hvs.out], by rw [← HM3.out, Hm2.out, Int.natCast_ediv]; rfl, by go_num, by omega, HB2.out, HA2.out⟩
      case measure => simp [intOf]; omega
    · have hlti : ¬ ((i : Nat) : Int) < (k : Int) := by omega
      have hik : i = k := by omega
      obtain ⟨vs, Hvs⟩ : ∃ vs, Hid (vs = us ++ encN i n) := ⟨_, rfl⟩
      rw [← Hvs.out] at HB1 ⊢
      go_wp2_with fail
      go_ret
      rw [← hik, ← Hvs.out]
      exact ⟨rfl, HB1.out, HA1.out⟩
end Go.Proofs.Ytllhmidpphlbhaa.ds
namespace Go.Proofs.Ytllhmidpphlbhaa.ds
open Go.ChangeShapes Go.WideShapes Go.ChangeAt Go.RowKit Go.Sort
set_option linter.unusedVariables false
set_option linter.unusedSimpArgs false
theorem encN1 {n : Nat} (h : n < 256) : encN 1 n = [n] := by simp [encN]; omega
set_option maxHeartbeats 4000000 in
set_option maxRecDepth 100000 in
theorem atextS_ok {wB w : World} {g : Nat} {us : List Nat} (h : PB wB w g us) (k : ByteArray) (hk : k.size ≤ 255) (hl : us.length + 1 + k.size ≤ 2048) : Calls Try.prog 68 #[.slice (some ⟨g, 0, none⟩) us.length 2048, .string k] w fun e w' => PA wB w w' g (us ++ (encN 1 (bsk k).length ++ bsk k)) e := by
  have HE : Hid (us ++ (encN 1 (bsk k).length ++ bsk k) = us ++ [k.size] ++ bsk k) := by unfold Hid; rw [bsk_len, encN1 (by omega), List.append_assoc]
  have hw8 : IntKind.u8.wrap (k.size : Int) = (k.size : Int) := by rw [IntKind.wrap_u8]; omega
  obtain ⟨W1, h1, h2, h3⟩ := h.app1 k.size (by omega)
  obtain ⟨W2, h4, h5, h6⟩ := h2.appS k (by rw [List.length_append]; simp; omega)
  have HR1 := hid h1
  have HR2 := hid h4
  have HB := hid h5
  have HA := hid (h3.trans h6)
  clear h h1 h2 h3 h4 h5 h6
  rw [HE.out]
  clear HE
  generalize us ++ [k.size] ++ bsk k = vs2 at *
  generalize us ++ [k.size] = vs1 at *
  go_enter Try.func68, Try.ntmps68
  go_wp2_with (at_builtin; first | refine wpList_app2 rfl (.tmp 5) (.tmp 9) 28 28 rfl _ _ rfl rfl _ _ HR1.out ?_ | refine wpList_app2 rfl (.tmp 10) (.tmp 11) 28 9 rfl _ _ rfl rfl _ _ HR2.out ?_)
  go_ret
  exact ⟨rfl, HB.out, HA.out⟩
set_option maxHeartbeats 4000000 in
set_option maxRecDepth 100000 in
theorem atextB_ok {wB w : World} {g : Nat} {us : List Nat} (h : PB wB w g us) (s : Sl) (vs : List Nat) (hv : Rd wB s.p (byts vs)) (hn : vs.length = s.n) (ho : s.ok) (hk : vs.length ≤ 255) (hl : us.length + 1 + vs.length ≤ 2048) : Calls Try.prog 95 #[.slice (some ⟨g, 0, none⟩) us.length 2048, .slice s.p s.n s.c] w fun e w' => PA wB w w' g (us ++ (encN 1 vs.length ++ vs)) e := by
  have HE : Hid (us ++ (encN 1 vs.length ++ vs) = us ++ [s.n] ++ vs) := by unfold Hid; rw [hn, encN1 (by omega), List.append_assoc]
  have hw8 : IntKind.u8.wrap (s.n : Int) = (s.n : Int) := by rw [IntKind.wrap_u8]; omega
  obtain ⟨W1, h1, h2, h3⟩ := h.app1 s.n (by omega)
  have HR1 := hid h1
  have hv1 := hv.kept0 h2.ap
  have HR2 : Hid (∃ W2, (Builtin.append_ #[28, 28] 28 #[.slice (some ⟨g, 0, none⟩) (us ++ [s.n]).length 2048, .slice s.p s.n s.c]).run Try.prog W1 = .ok (.slice (some ⟨g, 0, none⟩) (us ++ [s.n] ++ vs).length 2048) W2 ∧ PB wB W2 g (us ++ [s.n] ++ vs) ∧ Apart [g] W1 W2) := by
    unfold Hid
    obtain ⟨p, n, c⟩ := s
    dsimp only at *
    cases p with
    | some a =>
      have hc : ∀ j u, (byts vs)[j]? = some u → W1.cell? (a.add j) = some u := fun j u hj => by
        have hjl : 0 < (byts vs).length := by
          cases hx : byts vs with
          | nil => rw [hx] at hj; simp at hj
          | cons => simp
        obtain ⟨P, o, e, hP, hcc⟩ := hv1 hjl
        simp at e
        rw [e, Addr.add_mid]; exact hcc j u hj
      have := h2.app vs a c hc (by rw [List.length_append]; simp; omega)
      rw [hn] at this; exact this
    | none =>
      obtain ⟨hn0, hc0⟩ := ho rfl
      dsimp only at hn0 hc0
      subst hn0 hc0
      have hv0 : vs = [] := List.length_eq_zero_iff.1 hn
      subst hv0
      obtain ⟨i0, hif, hz0, hz1, hz2⟩ := info_parts infoB
      refine ⟨W1, ?_, by simpa using h2, Apart.refl _ _⟩
      simp [Builtin.append_, run_underlying Try.underlying28, sizeOf, typeInfo, hif, Builtin.lenOf, Builtin.firstCells]
      rw [if_pos (by simp at hl; omega)]
      rfl
  obtain ⟨W2, h4, h5, h6⟩ := HR2.out
  have HR2 := hid h4
  have HB := hid h5
  have HA := hid (h3.trans h6)
  clear h h1 h2 h3 h4 h5 h6 hv hv1
  rw [HE.out]
  clear HE
  generalize us ++ [s.n] ++ vs = vs2 at *
  generalize us ++ [s.n] = vs1 at *
  go_enter Try.func95, Try.ntmps95
  go_wp2_with (at_builtin; first | refine wpList_app2 rfl (.tmp 5) (.tmp 9) 28 28 rfl _ _ rfl rfl _ _ HR1.out ?_ | refine wpList_app2 rfl (.tmp 10) (.tmp 11) 28 28 rfl _ _ rfl rfl _ _ HR2.out ?_)
  go_ret
  exact ⟨rfl, HB.out, HA.out⟩
end Go.Proofs.Ytllhmidpphlbhaa.ds
namespace Go.Proofs.Ytllhmidpphlbhaa.ds
open Go.ChangeShapes Go.WideShapes Go.ChangeAt Go.RowKit Go.Sort
set_option linter.unusedVariables false
set_option linter.unusedSimpArgs false

theorem encSps_snoc : ∀ (l : List S) (x : S), encSps (l ++ [x]) = encSps l ++ encSp x
  | [], x => by simp [encSps]
  | y :: l, x => by
    show encSp y ++ encSps (l ++ [x]) = encSp y ++ encSps l ++ encSp x
    rw [encSps_snoc l x, List.append_assoc]
theorem encSps_take {xs : List S} {i : Nat} (hi : i < xs.length) : encSps (xs.take (i + 1)) = encSps (xs.take i) ++ encSp (g xs i) := by
  rw [take_g hi, encSps_snoc]
set_option maxHeartbeats 8000000 in
set_option maxRecDepth 100000 in
theorem aset_ok {wB w : World} {g : Nat} {us : List Nat} (h : PB wB w g us) {pp : Option Addr} {N c : Nat} {xs : List S} (hx : L wB pp N xs) (ho : OkL 64 xs) (hl : us.length + 105 ≤ 2048) : Calls Try.prog 90 #[.slice (some ⟨g, 0, none⟩) us.length 2048, .slice pp N c] w fun e w' => PA wB w w' g (us ++ encSt xs) e := by
  have HX0 := hid hx
  have HO := hid ho
  have hN : xs.length = N := hx.len
  have h8 := ho.le8
  have hw8 : IntKind.u8.wrap (N : Int) = (N : Int) := by rw [IntKind.wrap_u8]; omega
  obtain ⟨W1, h1, h2, h3⟩ := h.app1 N (by omega)
  have HRUN := hid h1
  have HB1 : Hid (PB wB W1 g (us ++ encN 1 N)) := by unfold Hid; rw [encN1 (by omega)]; exact h2
  have HA1 := hid h3
  have HE1 : Hid (us ++ [N] = us ++ encN 1 N) := by unfold Hid; rw [encN1 (by omega)]
  rw [HE1.out] at HRUN
  have HL1 : Hid ((us ++ encN 1 N).length + 104 ≤ 2048 ∧ N ≤ 8 ∧ xs.length = N) := ⟨by rw [List.length_append, encN_len]; omega, by omega, hN⟩
  have HES : Hid (us ++ encSt xs = (us ++ encN 1 N) ++ encSps xs) := by unfold Hid encSt; rw [hN, List.append_assoc]
  rw [HES.out]
  clear h h1 h2 h3 hx ho HE1 HES hl
  generalize us ++ encN 1 N = vs at *
  go_enter Try.func90, Try.ntmps90
  go_wp2_with (at_builtin; refine wpList_app2 rfl (.tmp 7) (.tmp 11) 28 28 rfl _ _ rfl rfl _ _ HRUN.out ?_)
  go_loopw [0, 6, 15] (fun a _ b wt => ∃ (i : Nat), a = .slice (some ⟨g, 0, none⟩) (vs ++ encSps (xs.take i)).length 2048 ∧ b = .int .i64 (i : Nat) ∧ i ≤ N ∧ PB wB wt g (vs ++ encSps (xs.take i)) ∧ Apart [g] w wt) (fun _ _ b _ => N - (intOf b).toNat)
  case atStart => exact ⟨0, by simp [encSps], rfl, Nat.zero_le _, by simpa [encSps] using HB1.out, HA1.out⟩
  case round =>
    obtain ⟨i, rfl, rfl, hi, hb, ha⟩ := hrel
    have HB2 := hid hb
    have HA2 := hid ha
    clear hb ha
    by_cases hlt : i < N
    · have hlti : ((i : Nat) : Int) < (N : Int) := by omega
      have hil : i < xs.length := by omega
      have HXr := hid (HX0.out.kept0 HB2.out.ap)
      obtain ⟨P, o, hP, hPl, hc⟩ := HXr.out.sp (by omega)
      subst hP
      obtain ⟨c0, c1, c2⟩ := hc i hil
      clear hc
      obtain ⟨x, Hx⟩ : ∃ x, Hid (x = ds.g xs i) := ⟨_, rfl⟩
      rw [← Hx.out] at c0 c1 c2
      have hox := HO.out.ok x (by rw [Hx.out]; exact g_mem hil)
      have pt : x.t < 2 ^ 64 := ok_lt hox
      obtain ⟨xn, hxn⟩ := Int.eq_ofNat_of_zero_le hox.n0
      obtain ⟨xb, hxb⟩ := Int.eq_ofNat_of_zero_le hox.b0
      have hn8 := hox.n8
      have hbM := hox.bM
      obtain ⟨xt, Hxt⟩ : ∃ xt, Hid (xt = x.t) := ⟨_, rfl⟩
      have HES : Hid ((vs ++ encSps (xs.take i)) ++ [xn] ++ encN 4 xb ++ encN 8 xt = vs ++ encSps (xs.take (i + 1))) := by
        unfold Hid
        rw [encSps_take hil, ← Hx.out]
        unfold encSp
        rw [hxn, hxb, ← Hxt.out, Int.toNat_natCast, Int.toNat_natCast, encN1 (by omega)]
        simp only [List.append_assoc]
      have HLE : Hid ((vs ++ encSps (xs.take i)).length + 13 ≤ 2048) := by
        unfold Hid
        rw [List.length_append, encSps_len, List.length_take]
        have := HL1.out
        omega
      rw [hxn] at c0
      rw [hxb] at c1
      rw [← Hxt.out] at c2
      have hwn : IntKind.u8.wrap (xn : Int) = (xn : Int) := by rw [IntKind.wrap_u8]; omega
      have hwb : IntKind.u64.wrap (xb : Int) = (xb : Int) := by rw [IntKind.wrap_u64]; omega
      have hl3 : xt < 18446744073709551616 := by rw [Hxt.out]; exact pt
      have hl2 : xb < 18446744073709551616 := by omega
      clear hxn hxb hox pt hn8 hbM
      generalize vs ++ encSps (xs.take i) = ws at *
      obtain ⟨X, HXX⟩ : ∃ X, Hid (X = wr.heap.size) := ⟨_, rfl⟩
      obtain ⟨w3, hw3⟩ : ∃ w3, w3 = wr.alloc (.cells #[.int .i64 (xn : Int), .int .i64 (xb : Int), .int .u64 (xt : Int)] 85) := ⟨_, rfl⟩
      have HX3 : Hid (w3.heap[X]? = some (.cells #[.int .i64 (xn : Int), .int .i64 (xb : Int), .int .u64 (xt : Int)] 85 (0, 0))) := by unfold Hid; rw [HXX.out, hw3]; exact heap_alloc_new wr _
      have HA3 : Hid (Apart [] wr w3) := by unfold Hid; rw [hw3]; exact (Apart.refl [] wr).alloc _
      have HB3 := hid (HB2.out.kept0 HA3.out)
      have HA3' := hid (HA2.out.trans (HA3.out.mono (by simp)))
      have HXg : Hid (X ≠ g) := by unfold Hid; have := lt_of_heap HB2.out.blk; rw [HXX.out]; omega
      go_upto_region 5 with fail
      rw [← hw3, ← HXX.out]
      clear hw3 HXX c0 c1 c2
      have HBd := hid (HB3.out.kept0 (Apart.refl [] w3).drew)
      have HAd := hid (HA3'.out.trans (((Apart.refl [] w3).drew).mono (by simp)))
      have HXd : Hid (w3.drew.heap[X]? = some (.cells #[.int .i64 (xn : Int), .int .i64 (xb : Int), .int .u64 (xt : Int)] 85 (0, 0))) := HX3.out
      refine wp_region_held_drew (S := fun W => W.heap[X]? = some (.cells #[.int .i64 (xn : Int), .int .i64 (xb : Int), .int .u64 (xt : Int)] 85 (0, 0))) (by kernel_rfl) HXd.out (fun hHeld => ?_)
      generalize w3.drew = wd at *
      refine tk 0 19 (.slice (some ⟨g, 0, none⟩) ws.length 2048) rfl ?_ ?_
      · intro W hSW; go_simp
      simp only [Act.put, List.setIfInBounds_toArray, List.set_cons_zero, List.set_cons_succ]
      refine tk 1 20 (.pointer (some ⟨X, 0, none⟩)) rfl ?_ ?_
      · intro W hSW; go_simp
      simp only [Act.put, List.setIfInBounds_toArray, List.set_cons_zero, List.set_cons_succ]
      refine tk 2 21 (.int .i64 (xn : Int)) rfl ?_ ?_
      · intro W hSW; obtain ⟨x0, x1, x2⟩ := row3v hSW; go_simp
      simp only [Act.put, List.setIfInBounds_toArray, List.set_cons_zero, List.set_cons_succ]
      refine tk 3 22 (.int .u8 (xn : Int)) rfl ?_ ?_
      · intro W hSW; go_simp
      simp only [Act.put, List.setIfInBounds_toArray, List.set_cons_zero, List.set_cons_succ]
      refine tk 6 25 (.pointer (some ⟨X, 1, none⟩)) rfl ?_ ?_
      · intro W hSW; go_simp
      simp only [Act.put, List.setIfInBounds_toArray, List.set_cons_zero, List.set_cons_succ]
      refine tk 7 26 (.int .i64 (xb : Int)) rfl ?_ ?_
      · intro W hSW; obtain ⟨x0, x1, x2⟩ := row3v hSW; go_simp
      simp only [Act.put, List.setIfInBounds_toArray, List.set_cons_zero, List.set_cons_succ]
      refine tk 8 27 (.int .u64 (xb : Int)) rfl ?_ ?_
      · intro W hSW; go_simp
      simp only [Act.put, List.setIfInBounds_toArray, List.set_cons_zero, List.set_cons_succ]
      refine wpAnyH_ready (rs := [4]) (by kernel_rfl) (by simp) ?_
      refine AllReadyH.cons rfl (fun KK hKK => ?_) AllReadyH.nil
      go_simp
      have hX5 : (wd.alloc (.cells #[.int .u8 (xn : Int)] 5)).heap[X]? = some (.cells #[.int .i64 (xn : Int), .int .i64 (xb : Int), .int .u64 (xt : Int)] 85 (0, 0)) := keep0 ((Apart.refl [] wd).alloc _) HXd.out
      refine hKK.out _ _ hX5 (fun hHeld => ?_)
      clear hKK KK
      try simp only [Act.put, List.setIfInBounds_toArray, List.set_cons_zero, List.set_cons_succ]
      obtain ⟨W4, h4, h5, h6⟩ := HBd.out.app1 xn (by have := HLE.out; omega)
      have HR4 := hid h4
      have HB4 := hid h5
      have HA4 := hid h6
      clear h4 h5 h6
      refine wpAnyH_ready (rs := [5]) (by kernel_rfl) (by simp) ?_
      refine AllReadyH.cons rfl (fun KK hKK => ?_) AllReadyH.nil
      refine step_app2 rfl (.tmp 19) (.tmp 23) 28 28 rfl _ _ rfl rfl _ _ HR4.out ?_
      have HX4 := hid (keepB HA4.out HXd.out HXg.out)
      refine hKK.out _ _ HX4.out (fun hHeld => ?_)
      clear hKK KK
      try simp only [Act.put, List.setIfInBounds_toArray, List.set_cons_zero, List.set_cons_succ]
      refine wpAnyH_ready (rs := [9]) (by kernel_rfl) (by simp) ?_
      refine AllReadyH.cons rfl (fun KK hKK => ?_) AllReadyH.nil
      go_simp
      have hcall := anum_ok HB4.out xb 4 hl2 (by rw [List.length_append]; simp; have := HLE.out; omega)
      rw [List.length_append] at hcall
      refine hcall.mono ?_
      rintro _ w5 ⟨rfl, hb5, ha5⟩
      have HB5 := hid hb5
      have HA5 := hid ((HA2.out.trans ((HA3.out.mono (by simp)).trans (Apart.refl _ _))).trans (Apart.refl _ _))
      have HX5 := hid (keepB ha5 HX4.out HXg.out)
      have HA5 := hid ((HAd.out.trans HA4.out).trans ha5)
      clear hb5 ha5 hcall
      dsimp only
      refine hKK.out _ _ HX5.out (fun hHeld => ?_)
      clear hKK KK
      have HL5 : Hid ((ws ++ [xn] ++ encN 4 xb).length + 8 ≤ 2048) := by unfold Hid; simp only [List.length_append, encN_len, List.length_singleton]; have := HLE.out; omega
      generalize ws ++ [xn] ++ encN 4 xb = ws5 at *
      refine tk 10 0 (.slice (some ⟨g, 0, none⟩) ws5.length 2048) rfl ?_ ?_
      · intro W hSW; go_simp
      simp only [Act.put, List.setIfInBounds_toArray, List.set_cons_zero, List.set_cons_succ]
      refine wpAnyH_done (by kernel_rfl) ?_ _
      clear hHeld
      obtain ⟨x0, x1, x2⟩ := row3v HX5.out
      go_wp2_with fail
      clear x0 x1 x2
      refine (anum_ok HB5.out xt 8 hl3 HL5.out).mono ?_
      rintro _ w6 ⟨rfl, hb6, ha6⟩
      have HB6 := hid hb6
      have HA6 := hid (HA5.out.trans ha6)
      clear hb6 ha6
      rw [HES.out] at HB6 ⊢
      obtain ⟨ws6, Hws6⟩ : ∃ ws6, Hid (ws6 = vs ++ encSps (xs.take (i + 1))) := ⟨_, rfl⟩
      rw [← Hws6.out] at HB6 ⊢
      dsimp only
      go_wp2_with fail
      go_roundw
      case rel => exact ⟨i + 1, by rw [Hws6.out], by go_num, by omega, by rw [← Hws6.out]; exact HB6.out, HA6.out⟩
      case measure => simp [intOf]; omega
    · have hlti : ¬ ((i : Nat) : Int) < (N : Int) := by omega
      have hiN : xs.take i = xs := List.take_of_length_le (by omega)
      rw [hiN] at HB2 ⊢
      obtain ⟨ws, Hws⟩ : ∃ ws, Hid (ws = vs ++ encSps xs) := ⟨_, rfl⟩
      rw [← Hws.out] at HB2 ⊢
      go_wp2_with fail
      go_ret
      rw [← Hws.out]
      exact ⟨rfl, HB2.out, HA2.out⟩
end Go.Proofs.Ytllhmidpphlbhaa.ds
