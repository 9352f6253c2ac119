import Derived.Test.YtagjmpdimphfaaaUpTo
import Derived.Laws.IdiomStrings
namespace Go.Proofs.Ytagjmpdimphfaaa.rg
open Go.ChangeShapes Go.WideShapes Go.ChangeAt Go.RowKit
set_option linter.unusedVariables false
set_option linter.unusedSimpArgs false
/-- bytes of the call's own, that can be written -/
structure Bc (w : World) (g N : Nat) (bs : List Nat) : Prop where
  lt : g < w.heap.size
  len : bs.length = N
  b256 : ∀ x ∈ bs, x < 256
  c : ∀ i, i < N → w.cell? ⟨g, i, none⟩ = some (.int .u8 (bs.getD i 0 : Nat))
  f : ∀ i, i < N → w.frozen? ⟨g, i, none⟩ = false
theorem frozen_set (w : World) (a : Addr) (v : Value) (b : Addr) : (w.setCell a v).frozen? b = w.frozen? b := by
  unfold World.frozen? World.setCell
  simp only [Array.getElem?_modify]
  by_cases h : a.block = b.block
  · rw [if_pos h]
    cases w.heap[b.block]? with
    | none => rfl
    | some o => cases o <;> rfl
  · rw [if_neg h]
theorem Bc.set {w : World} {g N : Nat} {bs : List Nat} (h : Bc w g N bs) (i x : Nat) (hi : i < N) (hx : x < 256) : Bc (w.setCell ⟨g, i, Option.none⟩ (.int .u8 (x : Nat))) g N (bs.set i x) := by
  have hl := h.len
  refine ⟨by simpa [World.setCell] using h.lt, by simp [hl], fun y hy => ?_, fun j hj => ?_, fun j hj => by rw [frozen_set]; exact h.f j hj⟩
  · rcases List.mem_or_eq_of_mem_set hy with h1 | h1
    · exact h.b256 y h1
    · omega
  · by_cases hji : j = i
    · subst hji
      rw [World.cell?_setCell_same _ _ _ (h.c j hj)]
      simp [List.getD_eq_getElem?_getD, hl, hi]
    · rw [World.cell?_setCell_other]
      · rw [h.c j hj]
        simp [List.getD_eq_getElem?_getD, List.getElem?_set_ne (Ne.symm hji)]
      · intro e; exact hji (by injection e with _ e2; exact e2.symm)
theorem Bc.by {w : World} {g N : Nat} {bs : List Nat} (h : Bc w g N bs) (n : Nat) (hn : n ≤ N) : By w (some ⟨g, 0, Option.none⟩) n (bs.take n) := by
  have hl := h.len
  refine ⟨by rw [List.length_take]; omega, fun x hx => h.b256 x (List.mem_of_mem_take hx), fun _ => ⟨g, 0, rfl, h.lt, fun i hi => ?_⟩⟩
  have hi' : i < n := by rw [List.length_take] at hi; omega
  rw [Nat.zero_add, h.c i (by omega)]
  simp [List.getD_eq_getElem?_getD, hi']
theorem Bc.kept {w w' : World} {g N : Nat} {bs : List Nat} (h : Bc w g N bs) (a : Apart [] w w') : Bc w' g N bs := by
  refine ⟨Nat.lt_of_lt_of_le h.lt a.size, h.len, h.b256, fun i hi => (a.cell (p := ⟨g, i, Option.none⟩) h.lt (by simp)).trans (h.c i hi), fun i hi => ?_⟩
  rw [← h.f i hi]
  unfold World.frozen?
  rw [a.block g h.lt (by simp)]
theorem info5 : (Try.prog.info? 5).map (fun i => (i.zero, i.size, i.bytes)) = some (some (.int .u8 0), 1, 1) := by kernel_rfl
/-- the key's bytes, and two more -/
theorem append_two (w : World) (s : ByteArray) (hs : s.size ≤ 1048576) (ty : TypeId) :
    ∃ g cap w', (Builtin.append_ #[64, 64] ty #[.slice (some ⟨w.heap.size, 0, none⟩) s.size (grownCap w s.size 0 5), .slice (some ⟨(Lib.bytesWorld w 5 s).heap.size, 0, none⟩) 2 2]).run Try.prog ((Lib.bytesWorld w 5 s).alloc (.cells #[.int .u8 167, .int .u8 182] 5)) = .ok (.slice (some ⟨g, 0, none⟩) (s.size + 2) cap) w' ∧ Bc w' g (s.size + 2) (strN s ++ [167, 182]) ∧ Apart [] w w' ∧ s.size + 2 ≤ cap ∧ cap ≤ 9223372036854775807 ∧ w.heap.size ≤ g := by
  obtain ⟨i0, hi, hz0, hz1, hz2⟩ := info_parts info5
  have hz1' : i0.size = 1 := hz1
  have aB := bytes_apart w 5 s
  have hby := bytes_by w 5 s
  have hln := strN_len s
  have aA : Apart [] (Lib.bytesWorld w 5 s) ((Lib.bytesWorld w 5 s).alloc (.cells #[.int .u8 167, .int .u8 182] 5)) := (Apart.refl _ _).alloc _
  have hnew := Lib.bytesWorld_at_new w 5 s
  have hsz := Lib.bytesWorld_size w 5 s
  have hg1 : w.heap.size < (Lib.bytesWorld w 5 s).heap.size := by omega
  have hnewA := (aA.block w.heap.size hg1 (by simp)).trans hnew
  have hcsz : (Lib.bytesCells w 5 s).size = s.size + (grownCap w s.size 0 5 - s.size) := by
    unfold Lib.bytesCells; simp
  have hge : s.size ≤ grownCap w s.size 0 5 := grownCap_ge w _ _ _
  have hcm := grownCap_le_maxLen w s.size 0 5 (by unfold maxLen; omega)
  have hnews : ∀ j u, ([.int .u8 167, .int .u8 182] : List Value)[j]? = some u → ((Lib.bytesWorld w 5 s).alloc (.cells #[.int .u8 167, .int .u8 182] 5)).cell? ((⟨(Lib.bytesWorld w 5 s).heap.size, 0, none⟩ : Addr).add j) = some u := by
    intro j u hj
    match j, hj with
    | 0, hj => simp at hj; subst hj; simp [Addr.add]
    | 1, hj => simp at hj; subst hj; simp [Addr.add]
  have hone : ∀ u ∈ ([.int .u8 167, .int .u8 182] : List Value), u.oneCell' = true := by intro u hu; simp at hu; rcases hu with rfl | rfl <;> rfl
  have hb2 : ∀ x ∈ strN s ++ [167, 182], x < 256 := by
    intro x hx
    rcases List.mem_append.1 hx with h | h
    · exact strN_lt s x h
    · simp at h; omega
  have hold : ∀ i, i < s.size → ((Lib.bytesWorld w 5 s).alloc (.cells #[.int .u8 167, .int .u8 182] 5)).cell? ⟨w.heap.size, i, none⟩ = some (.int .u8 ((strN s).getD i 0 : Nat)) := by
    intro i hi
    rw [aA.cell (p := ⟨w.heap.size, i, none⟩) hg1 (by simp), Lib.bytesWorld_cell w 5 s i hi, strN_get s i hi]
  by_cases hroom : s.size + 2 ≤ grownCap w s.size 0 5
  · have hrun := run_append_room_cells (P := Try.prog) ((Lib.bytesWorld w 5 s).alloc (.cells #[.int .u8 167, .int .u8 182] 5)) 64 ty 5 i0 Try.underlying64 hi w.heap.size 0 s.size (grownCap w s.size 0 5) ⟨(Lib.bytesWorld w 5 s).heap.size, 0, none⟩ 2 2 [.int .u8 167, .int .u8 182] (by rw [hz1']; rfl) hnews hone hroom
      (fun j hj => by
        simp at hj
        rw [hz1', Nat.mul_one, Nat.zero_add]
        simp only [World.cell?, hnewA]
        simp; omega)
      (fun j hj => by
        simp at hj
        rw [hz1', Nat.mul_one, Nat.zero_add]
        simp only [World.frozen?, hnewA]
        simp; omega)
    rw [hz1', Nat.mul_one, Nat.zero_add] at hrun
    have e1 : ∀ (y : World) (g n : Nat) (a b : Value), y.setCells g n [a, b] = (y.setCell ⟨g, n, none⟩ a).setCell ⟨g, n + 1, none⟩ b := fun _ _ _ _ _ => rfl
    rw [e1] at hrun
    refine ⟨w.heap.size, _, _, hrun, ?_, ?_, hroom, by unfold maxLen at hcm; omega, Nat.le_refl _⟩
    · have hB0 : Bc ((Lib.bytesWorld w 5 s).alloc (.cells #[.int .u8 167, .int .u8 182] 5)) w.heap.size (s.size + 2) (strN s ++ [0, 0]) := by
        refine ⟨by have := aA.size; omega, by simp [hln], fun x hx => ?_, fun i hi => ?_, fun i hi => ?_⟩
        · rcases List.mem_append.1 hx with h | h
          · exact strN_lt s x h
          · simp at h; omega
        · by_cases his : i < s.size
          · rw [hold i his]
            simp [List.getD_eq_getElem?_getD, List.getElem?_append_left (show i < (strN s).length by omega)]
          · simp only [World.cell?, hnewA]
            have e3 : (Lib.bytesCells w 5 s)[i]? = some (.int .u8 0) := by
              unfold Lib.bytesCells
              rw [Array.getElem?_append_right (by simp; omega), Array.getElem?_replicate, if_pos (by simp; omega)]
            have e4 : (strN s ++ [0, 0]).getD i 0 = 0 := by
              rw [List.getD_eq_getElem?_getD, List.getElem?_append_right (by omega)]
              have : i - (strN s).length = 0 ∨ i - (strN s).length = 1 := by omega
              rcases this with h | h <;> rw [h] <;> rfl
            rw [e4]
            simpa using e3
        · simp only [World.frozen?, hnewA]
          simp; omega
      have h1 := hB0.set s.size 167 (by omega) (by omega)
      have h2 := h1.set (s.size + 1) 182 (by omega) (by omega)
      have e2 : ((strN s ++ [0, 0]).set s.size 167).set (s.size + 1) 182 = strN s ++ [167, 182] := by
        rw [← hln, List.set_append_right _ _ (Nat.le_refl _)]
        simp
      rw [e2] at h2
      exact h2
    · exact ((aB.trans aA).setCell (.inr (Nat.le_refl _)) _).setCell (.inr (Nat.le_refl _)) _
  · obtain ⟨v', w', hrun, r1, r2⟩ := run_append_arg_grows (P := Try.prog) ((Lib.bytesWorld w 5 s).alloc (.cells #[.int .u8 167, .int .u8 182] 5)) 64 ty 5 i0 (.int .u8 0) 1 1 Try.underlying64 hi hz0 hz1 hz2 rfl (by decide) ⟨w.heap.size, 0, none⟩ s.size (grownCap w s.size 0 5) ((strN s).map fun x : Nat => .int .u8 (x : Nat)) (by simp [hln])
      (fun j u hu => by
        have hj : j < s.size := by have := (List.getElem?_eq_some_iff.1 hu).1; simpa [hln] using this
        rw [Addr.add_lit, Nat.zero_add, hold j hj]
        simp [List.getElem?_eq_getElem (show j < (strN s).length by omega)] at hu
        rw [← hu]
        simp [List.getD_eq_getElem?_getD, List.getElem?_eq_getElem (show j < (strN s).length by omega)])
      ⟨(Lib.bytesWorld w 5 s).heap.size, 0, none⟩ 2 2 [.int .u8 167, .int .u8 182] rfl hnews (by omega) (by unfold maxLen; omega) (by omega)
    have ap2 : Apart [] _ w' := (apart_grown r2).mono (by simp)
    obtain ⟨hxl, ⟨_, hz⟩ | ⟨g, cap', cur, rfl, hbg, hr, hle, hcm2, hcs, htk⟩⟩ := id r1
    · omega
    · refine ⟨g, cap', w', hrun, ⟨lt_of_heap hr, by simp [hln], hb2, fun i hi => ?_, fun i hi => frozen_of_row _ _ _ _ _ hr⟩, (aB.trans aA).trans ap2, hle, by unfold maxLen at hcm2; omega, ?_⟩
      · rw [r1.cellAt i (by omega)]
        have hmap : ((strN s).map fun x : Nat => Value.int .u8 (x : Nat)) ++ [.int .u8 167, .int .u8 182] = (strN s ++ [167, 182]).map fun x : Nat => Value.int .u8 (x : Nat) := by simp
        rw [hmap, List.getElem?_map, List.getD_eq_getElem?_getD, List.getElem?_eq_getElem (show i < (strN s ++ [167, 182]).length by simp [hln]; omega)]
        rfl
      · have := aA.size; have := aB.size; omega
/-- bytes as a string -/
def strOf (bs : List Nat) : ByteArray := ⟨(bs.map UInt8.ofNat).toArray⟩
theorem strOf_N (bs : List Nat) (h : ∀ x ∈ bs, x < 256) : strN (strOf bs) = bs := by
  unfold strN strOf
  simp only [List.map_map]
  conv => rhs; rw [← List.map_id bs]
  refine List.map_congr_left (fun x hx => ?_)
  have := h x hx
  simp [UInt8.toNat_ofNat]; omega
theorem strOf_size (bs : List Nat) : (strOf bs).size = bs.length := by
  show (bs.map UInt8.ofNat).toArray.size = _
  simp
theorem strOf_key (s : ByteArray) : strOf (strN s) = s := by
  have e : (strN s).map UInt8.ofNat = s.data.toList := by
    unfold strN
    rw [List.map_map]
    conv => rhs; rw [← List.map_id s.data.toList]
    refine List.map_congr_left (fun x hx => ?_)
    simp
  unfold strOf
  rw [e]
theorem back_run {w : World} {g N : Nat} {bs : List Nat} (h : Bc w g N bs) (n cap : Nat) (hn : n ≤ N) : (convert 64 9 (.slice (some ⟨g, 0, none⟩) n cap)).run Try.prog w = .ok (.string (strOf (bs.take n))) w := by
  have hl : ((bs.take n).map UInt8.ofNat).length = n := by have := h.len; simp; omega
  have := run_convert_bytes_back (P := Try.prog) w 64 9 5 ⟨g, 0, none⟩ cap ((bs.take n).map UInt8.ofNat) Try.underlying64 Try.underlying5 Try.underlying9 (fun j hj => by
    rw [hl] at hj
    have hlen := h.len
    rw [Addr.add_lit, Nat.zero_add, h.c j (by omega)]
    have hx : bs.getD j 0 < 256 := h.b256 _ (by rw [List.getD_eq_getElem?_getD, List.getElem?_eq_getElem (show j < bs.length by omega)]; exact List.getElem_mem _)
    rw [List.getD_eq_getElem?_getD, List.getElem?_eq_getElem (show j < bs.length by omega)] at hx ⊢
    simp at hx ⊢
    omega)
  rw [hl] at this
  exact this
set_option maxHeartbeats 8000000 in
set_option maxRecDepth 100000 in
theorem hashed_ok (s : ByteArray) (hs : s.size ≤ 1048576) (w : World) : Calls Try.prog 37 #[.string s] w fun r w' => r = .returned (.bool true) ∧ Apart [] w w' := by
  have kc : ∀ (W : World) (t : ByteArray), (convert 9 64 (.string t)).run Try.prog W = .ok (.slice (some ⟨W.heap.size, 0, none⟩) t.size (grownCap W t.size 0 5)) (Lib.bytesWorld W 5 t) := fun W t => Lib.run_convert_string_bytes (P := Try.prog) W 9 64 5 t Try.underlying9 Try.underlying64 Try.underlying5
  obtain ⟨g, cap, w1, hrun, hB, a1, hle, hc63, hg⟩ := append_two w s hs 64
  have HB : Hid (Bc w1 g (s.size + 2) (strN s ++ [167, 182])) := hB
  have htk : (strN s ++ [167, 182]).take s.size = strN s := by rw [← strN_len s, List.take_left]
  have HBy : Hid (By w1 (some ⟨g, 0, none⟩) s.size (strN s)) := by
    have := hB.by s.size (by omega)
    rw [htk] at this; exact this
  have HBK : Hid ((convert 64 9 (.slice (some ⟨g, 0, none⟩) s.size cap)).run Try.prog w1 = .ok (.string s) w1) := by
    have := back_run hB s.size cap (by omega)
    rw [htk, strOf_key] at this; exact this
  have HTK : Hid ((strN s ++ [167, 182]).take s.size = strN s) := htk
  clear hB htk
  have hncap : ¬ cap < s.size := by omega
  go_enter Try.func37, Try.ntmps37
  go_wp2_with (at_builtin; refine wpList_append3 rfl _ _ 64 rfl _ _ rfl rfl _ _ hrun ?_)
  refine (hash_ok HBy.out (by omega)).mono ?_
  rintro r w2 ⟨rfl, rfl⟩
  dsimp only
  have hh := hashN_lt (strN s)
  have HB2 : Hid (Bc (Lib.bytesWorld w2 5 s) g (s.size + 2) (strN s ++ [167, 182])) := HB.out.kept (bytes_apart w2 5 s)
  have aZ := bytes_apart w2 5 s
  have hByZ := bytes_by w2 5 s
  have HBK2 : Hid ((convert 64 9 (.slice (some ⟨g, 0, none⟩) s.size cap)).run Try.prog (Lib.bytesWorld w2 5 s) = .ok (.string s) (Lib.bytesWorld w2 5 s)) := by
    have := back_run HB2.out s.size cap (by omega)
    rw [HTK.out, strOf_key] at this
    exact this
  obtain ⟨h, Hh⟩ : ∃ h, Hid (h = hashN (strN s)) := ⟨_, rfl⟩
  rw [← Hh.out] at hh ⊢
  have hwh : IntKind.i64.wrap (h : Int) = (h : Int) := by simp [IntKind.wrap, IntKind.bits, IntKind.signed]; omega
  clear HBK hrun
  go_wp2_with fail
  refine (refHash_ok hByZ (by omega)).mono ?_
  rintro r w3 ⟨rfl, hw3⟩
  dsimp only
  rw [← Hh.out]
  rw [← hw3] at aZ HB2 HBK2
  clear hw3 hByZ
  have A3 : Apart [] w w3 := a1.trans aZ
  have c0 := HB2.out.c s.size (by omega)
  have c1 := HB2.out.c (s.size + 1) (by omega)
  have e0 : (strN s ++ [167, 182]).getD s.size 0 = 167 := by rw [List.getD_eq_getElem?_getD, List.getElem?_append_right (by rw [strN_len]; omega), strN_len]; simp
  have e1 : (strN s ++ [167, 182]).getD (s.size + 1) 0 = 182 := by rw [List.getD_eq_getElem?_getD, List.getElem?_append_right (by rw [strN_len]; omega), strN_len]; simp
  rw [e0] at c0
  rw [e1] at c1
  have hbk := HBK2.out
  go_wp2_with fail
  have HB3 : Hid (Bc w3 g (s.size + 2) (strN s ++ [167, 182])) := HB2.out
  clear c0 c1 hbk HBK2 HB2 HB HBy aZ
  obtain ⟨n, Hn⟩ : ∃ n, Hid (n = s.size) := ⟨_, rfl⟩
  have hn20 : n ≤ 1048576 := by rw [Hn.out]; exact hs
  rw [← Hn.out] at HB3 hle hncap ⊢
  go_loopw [6] (fun v wr => ∃ (i : Nat) (cs : List Nat), i ≤ n ∧ v = .int .i64 i ∧ Bc wr g (n + 2) cs ∧ Apart [] w wr) (fun v _ => n - (intOf v).toNat)
  case atStart => exact ⟨0, _, Nat.zero_le _, rfl, HB3.out, A3⟩
  case round =>
    obtain ⟨i, cs, hi, rfl, hC, aR⟩ := hrel
    have HC : Hid (Bc wr g (n + 2) cs) := hC
    by_cases hlt : i < n
    · have ci := hC.c i (by omega)
      have fi := hC.f i (by omega)
      have hx : cs.getD i 0 < 256 := hC.b256 _ (by rw [List.getD_eq_getElem?_getD, List.getElem?_eq_getElem (show i < cs.length by rw [hC.len]; omega)]; exact List.getElem_mem _)
      obtain ⟨x, Hx⟩ : ∃ x, Hid (x = cs.getD i 0) := ⟨_, rfl⟩
      rw [← Hx.out] at ci hx
      have hxx : bits .xor .u8 (x : Int) 1 = ((x ^^^ 1 : Nat) : Int) := u8_xor_nat x 1 hx (by omega)
      have hx2 : x ^^^ 1 < 256 := Nat.xor_lt_two_pow (n := 8) hx (by omega)
      obtain ⟨y, Hy⟩ : ∃ y, Hid (y = x ^^^ 1) := ⟨_, rfl⟩
      rw [← Hy.out] at hxx hx2
      have HC2 : Hid (Bc (wr.setCell ⟨g, i, none⟩ (.int .u8 (y : Nat))) g (n + 2) (cs.set i y)) := hC.set i y (by omega) hx2
      have HA2 : Hid (Apart [] w (wr.setCell ⟨g, i, none⟩ (.int .u8 (y : Nat)))) := aR.setCell (.inr hg) _
      clear hC aR HC
      go_wp2_with fail
      go_roundw
      case rel => exact ⟨i + 1, cs.set i y, by omega, by simp, HC2.out, HA2.out⟩
      case measure => simp only [intOf]; omega
    · obtain rfl : i = n := by omega
      have hbk := back_run hC i cap (by omega)
      have HT := hC.by i (by omega)
      have hlt2 : ∀ x ∈ cs.take i, x < 256 := fun x hx => hC.b256 x (List.mem_of_mem_take hx)
      have HN : Hid (strN (strOf (cs.take i)) = cs.take i) := strOf_N _ hlt2
      have hsz : (strOf (cs.take i)).size ≤ 1048576 := by rw [strOf_size, List.length_take]; omega
      obtain ⟨t, Ht⟩ : ∃ t, Hid (t = strOf (cs.take i)) := ⟨_, rfl⟩
      rw [← Ht.out] at hbk HN hsz
      have aZ := bytes_apart wr 5 t
      have hByZ := bytes_by wr 5 t
      rw [HN.out] at hByZ
      have HT2 : Hid (By (Lib.bytesWorld wr 5 t) (some ⟨g, 0, none⟩) i (cs.take i)) := HT.kept0 aZ
      have hh2 := hashN_lt (cs.take i)
      have HC3 := hC
      clear hC HC HC3 hlt2
      go_wp2_with fail
      refine (refHash_ok hByZ (by omega)).mono ?_
      rintro r w4 ⟨rfl, hw4⟩
      dsimp only
      rw [← hw4] at aZ HT2
      clear hw4 hByZ
      go_wp2_with fail
      refine (hash_ok HT2.out (by omega)).mono ?_
      rintro r w5 ⟨rfl, hw5⟩
      dsimp only
      have A5 : Apart [] w w5 := by rw [hw5]; exact aR.trans aZ
      clear hw5 aR aZ HT
      obtain ⟨q, Hq⟩ : ∃ q, Hid (q = hashN (cs.take i)) := ⟨_, rfl⟩
      rw [← Hq.out] at hh2 ⊢
      have hwq : IntKind.i64.wrap (q : Int) = (q : Int) := by simp [IntKind.wrap, IntKind.bits, IntKind.signed]; omega
      go_wp2_with fail
      go_ret
      exact ⟨rfl, A5⟩
set_option maxHeartbeats 8000000 in
set_option maxRecDepth 100000 in
theorem asked_6 {w : World} {S mark : Nat} {d : Sd} {who : Nat → Option Nat} {R Q n m : Nat} (C : Cx w S mark d who R Q n m) (wh A B : Int) (key : ByteArray) (hk : key.size ≤ 1048576) :
    Calls Try.prog 22 #[.pointer (some ⟨S, 0, none⟩), .pointer (some ⟨R, 0, none⟩), .pointer (some ⟨Q, 0, none⟩), .agg #[.int .i64 6, .int .i64 wh, .int .i64 A, .int .i64 B, .string key]] w fun r w' => AskP w w' r S mark who := by
  have aB : Apart [] w (w.alloc (.cells #[.int .i64 6, .int .i64 wh, .int .i64 A, .int .i64 B, .string key] 41)) := (Apart.refl _ _).alloc _
  have HC : Hid (Cx w S mark d who R Q n m) := C
  clear C
  go_enter Try.func22, Try.ntmps22
  go_wp2_with fail
  refine (hashed_ok key hk _).mono ?_
  rintro r w1 ⟨rfl, a1⟩
  dsimp only
  go_wp2_with fail
  go_ret
  exact askp_plain HC.out.sh (aB.trans a1)
theorem askOk_6 : AskOk 6 := fun C hmk wh A B key hk => asked_6 C wh A B key hk
theorem askOk_any (kd : Int) : AskOk kd := by
  by_cases h : kd < 1 ∨ 6 < kd
  · exact fun C hmk wh A B key hk => asked_0 C kd wh A B h key
  · rcases (show kd = 1 ∨ kd = 2 ∨ kd = 3 ∨ kd = 4 ∨ kd = 5 ∨ kd = 6 by omega) with rfl | rfl | rfl | rfl | rfl | rfl
    · exact askOk_1
    · exact askOk_2
    · exact askOk_3
    · exact askOk_4
    · exact askOk_5
    · exact askOk_6
end Go.Proofs.Ytagjmpdimphfaaa.rg
